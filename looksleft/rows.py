"""The rows that the book of a house can be."""

from looksleft.checks import is_between, is_full_row
from looksleft.errors import InvalidIndex, InvalidRow
from looksleft.looks import Look
from looksleft.order import fill_books, least_row, ready_writes, sure_at
from looksleft.pictures import check_asked


def _asked_order(store, looks, house):
    """What is surely ahead at a house, behind the checks that all functions here make first."""
    check_asked(store, looks, house)
    return sure_at(store, looks, house)


def count_rows(store, looks, house):
    """The number of rows of the house."""
    return _count_ends(_asked_order(store, looks, house), 0, {})


def _count_ends(sure, bits, known):
    """In how many orders the writes outside a lot can follow it; known keeps the counts of lots."""
    # Many rows go through one lot, so that counting by lots is short where listing rows is not.
    if bits not in known:
        ready = ready_writes(sure, bits)
        known[bits] = sum([_count_ends(sure, bits | 1 << write, known) for write in ready]) if ready else 1
    return known[bits]


def is_row(store, looks, house, value):
    """Whether a value is a row of the house."""
    return _keeps_order(_asked_order(store, looks, house), value)


def _keeps_order(sure, value):
    if not is_full_row(value, len(sure)):
        return False
    bits = 0
    for write in value:
        if sure[write] & bits != sure[write]:
            return False
        bits = bits | 1 << write
    return True


def row_of(store, looks, house):
    """The row of the house if there is only one, or None."""
    sure = _asked_order(store, looks, house)
    return None if _open_pairs(sure) else tuple(least_row(sure))


def open_pairs(store, looks, house):
    """All tuples (x, z) with x below z of which neither is surely ahead of the other at the house."""
    return _open_pairs(_asked_order(store, looks, house))


def _open_pairs(sure):
    writes = range(len(sure))
    return [(x, z) for x in writes for z in writes if x < z and not sure[z] >> x & 1 and not sure[x] >> z & 1]


def row_at(store, looks, house, index):
    """The row with this index among all rows of the house in ascending order."""
    sure = _asked_order(store, looks, house)
    known = {}
    if not is_between(index, 0, _count_ends(sure, 0, known) - 1):
        raise InvalidIndex(index)
    row = []
    bits = 0
    rest = index
    while len(row) < len(sure):
        write, rest = _write_at(sure, bits, known, rest)
        row.append(write)
        bits = bits | 1 << write
    return row


def _write_at(sure, bits, known, index):
    """The next write behind a lot in the row with an index, and its index among the rows that go on with this write."""
    ready = ready_writes(sure, bits)
    at = 0
    rest = index
    while rest >= _count_ends(sure, bits | 1 << ready[at], known):
        rest = rest - _count_ends(sure, bits | 1 << ready[at], known)
        at += 1
    return (ready[at], rest)


def row_books(store, looks, house, row):
    """Books that fit the looks, in which the book of the house is the row."""
    if not is_row(store, looks, house, row):
        raise InvalidRow(row)
    return fill_books(store, list(looks) + [Look(house, [[write] for write in row])])
