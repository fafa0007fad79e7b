"""Stores: a tree of houses, and writes with their homes and cells."""

from looksleft.checks import are_between, are_different, is_between, read_pair
from looksleft.errors import InvalidCell, InvalidCells, InvalidHomes, InvalidLine, InvalidLot, InvalidWrite
from looksleft.errors import NeverWritten
from looksleft.trees import check_house, read_tree

MOST_WRITES = 12
CELLS = 6


class Store:
    """A store before anything is done; it never changes."""

    def __init__(self, tree, homes, *, cells=None):
        if not are_between(homes, 0, tree.houses - 1) or len(homes) > MOST_WRITES:
            raise InvalidHomes(homes)
        if cells is not None and not (are_between(cells, 0, CELLS - 1) and len(cells) == len(homes)):
            raise InvalidCells(cells)
        self.tree = tree
        self.homes = tuple(homes)
        self.cells = (0,) * len(homes) if cells is None else tuple(cells)

    def __len__(self):
        return len(self.homes)

    def __eq__(self, other):
        return (isinstance(other, Store) and self.tree == other.tree
                and self.homes == other.homes and self.cells == other.cells)

    def line(self):
        """The line of the store, which read_store reads."""
        writes = [f" {self.homes[write]}.{self.cells[write]}" for write in range(len(self.homes))]
        return "".join([self.tree.line(), " /"] + writes)


def is_write(store, value):
    """Whether a value is a write of the store."""
    return is_between(value, 0, len(store) - 1)


def check_write(store, write):
    """Refuse a value that is not a write of the store."""
    if not is_write(store, write):
        raise InvalidWrite(write)


def is_lot(store, value):
    """Whether a value is a list of different writes of the store."""
    return are_between(value, 0, len(store) - 1) and are_different(value)


def check_lot(store, lot):
    """Refuse a value that is not a list of different writes of the store."""
    if not is_lot(store, lot):
        raise InvalidLot(lot)


def made_in(store, house):
    """The writes whose home is the house."""
    check_house(store.tree, house)
    return [write for write, home in enumerate(store.homes) if home == house]


def written(store, cell):
    """The writes of a cell."""
    if not is_between(cell, 0, CELLS - 1):
        raise InvalidCell(cell)
    return [write for write, its_cell in enumerate(store.cells) if its_cell == cell]


def check_written(store, cell):
    """Refuse a value that is not a cell, and a cell that nobody wrote."""
    if not written(store, cell):
        raise NeverWritten(cell)


def read_store(line):
    """The store that has this line."""
    store = _told_store(line)
    # The words are read loosely; that the store has this very line decides.
    if store is None or store.line() != line:
        raise InvalidLine(line)
    return store


def _told_store(line):
    if not isinstance(line, str):
        return None
    told, _, rest = line.partition(" /")
    writes = [read_pair(word, ".") for word in rest.split()]
    if None in writes:
        return None
    try:
        return Store(read_tree(told), [home for home, _ in writes], cells=[cell for _, cell in writes])
    except (InvalidLine, InvalidHomes, InvalidCells):
        return None
