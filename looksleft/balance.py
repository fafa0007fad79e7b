"""The last lines of whole books, how they differ along the roads, and what all copies show when all is finished."""

from looksleft.books import check_faultless
from looksleft.checks import is_between
from looksleft.errors import InvalidCount
from looksleft.running import last_of_cells
from looksleft.stores import check_written, written
from looksleft.trees import check_house


def last_lot(store, books, house, count, *, cell=None):
    """The writes of the last lines of a house, of all cells or of one."""
    check_faultless(store, books)
    check_house(store.tree, house)
    _check_count(store, count, cell)
    return sorted(_last_lines(store, books[house], count, cell))


def _check_count(store, count, cell):
    many = len(store) if cell is None else len(written(store, cell))
    if not is_between(count, 0, many):
        raise InvalidCount(count)


def _last_lines(store, book, count, cell):
    lines = [write for write in book if cell is None or store.cells[write] == cell]
    return lines[len(lines) - count:]


def own_lines(store, books, count, *, cell=None):
    """How many of the last lines of all houses stand in the book of their write's home."""
    check_faultless(store, books)
    _check_count(store, count, cell)
    own = [write for house, book in enumerate(books) for write in _last_lines(store, book, count, cell)
           if store.homes[write] == house]
    return len(own)


def exchanges(store, books, count, *, cell=None):
    """For each road (u, v) a tuple (u, v, gone, come): what only u has among its last lines, and what only v has."""
    check_faultless(store, books)
    _check_count(store, count, cell)
    last = [_last_lines(store, book, count, cell) for book in books]
    return [(u, v, _lacked(last[u], last[v]), _lacked(last[v], last[u])) for u, v in store.tree.roads]


def _lacked(lot, other):
    """The writes of a lot that another lot lacks."""
    return tuple(sorted([write for write in lot if write not in other]))


def copies(store, books):
    """For each house what its copy shows when all is finished."""
    check_faultless(store, books)
    return [last_of_cells(store, book) for book in books]


def parting(store, books, cell):
    """The road that parts the copies that show one write of the cell from those that show another one, or None."""
    shows = copies(store, books)
    check_written(store, cell)
    # No more than one road parts copies: along any way what they show of a cell changes but once.
    for u, v in store.tree.roads:
        if shows[u][cell] != shows[v][cell]:
            return (u, v)
    return None
