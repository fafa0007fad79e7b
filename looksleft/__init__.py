"""Looksleft: what a few looks into the copies of a store still tell."""
