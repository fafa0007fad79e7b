"""The tests of looksleft."""
