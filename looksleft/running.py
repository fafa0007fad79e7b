"""Running a store: making writes and handing them over, deed by deed."""

from looksleft.checks import is_list
from looksleft.errors import InvalidScript, NothingToMake, NothingUnderWay, Stopped
from looksleft.stores import CELLS, made_in
from looksleft.trees import both_ways, check_house, check_road, is_road, neighbours

MOST_DEEDS = 400


class Running:
    """A store behind the deeds done so far."""

    def __init__(self, store):
        houses = range(store.tree.houses)
        self.store = store
        self._unmade = [made_in(store, house) for house in houses]
        self._books = [[] for _ in houses]
        # The keys ascend, so that settle finds the least road by walking over them.
        self._handed_on = {road: [] for road in both_ways(store.tree)}
        self._deeds = []

    def make(self, house):
        """Make the next write of the house, and return it."""
        check_house(self.store.tree, house)
        if not self._unmade[house]:
            raise NothingToMake(house)
        write = self._unmade[house].pop(0)
        self._arrive(write, house, house)
        self._deeds.append(("make", house))
        return write

    def hand(self, u, v):
        """Hand over, from u to v, the next write that is under way there, and return it."""
        check_road(self.store.tree, u, v)
        if not self._handed_on[(u, v)]:
            raise NothingUnderWay(u, v)
        write = self._handed_on[(u, v)].pop(0)
        self._arrive(write, u, v)
        self._deeds.append(("hand", u, v))
        return write

    def _arrive(self, write, origin, house):
        self._books[house].append(write)
        for further in neighbours(self.store.tree, house):
            if further != origin:
                self._handed_on[(house, further)].append(write)

    def book(self, house):
        """The writes that have come to the house, in this order."""
        check_house(self.store.tree, house)
        return tuple(self._books[house])

    def under_way(self, u, v):
        """The writes that are under way from u to v, the next one first."""
        check_road(self.store.tree, u, v)
        return tuple(self._handed_on[(u, v)])

    def shows(self, house):
        """For each cell the write that the copy of the house shows, or None."""
        check_house(self.store.tree, house)
        return last_of_cells(self.store, self._books[house])

    @property
    def finished(self):
        """Whether every write is made and nothing is under way."""
        # A write that is still to be made or handed over is missing in some book.
        return all([len(book) == len(self.store) for book in self._books])

    @property
    def script(self):
        """All deeds done so far, in their order."""
        return tuple(self._deeds)

    def settle(self):
        """Hand over until nothing is under way, the least road first; return the number of deeds."""
        many = 0
        road = self._least_busy_road()
        while road is not None:
            self.hand(road[0], road[1])
            many += 1
            road = self._least_busy_road()
        return many

    def _least_busy_road(self):
        for road, waiting in self._handed_on.items():
            if waiting:
                return road
        return None


def last_of_cells(store, book):
    """For each cell the last write of the cell in a book, or None."""
    last = [None] * CELLS
    for write in book:
        last[store.cells[write]] = write
    return tuple(last)


def is_script(store, value):
    """Whether a value is a list of deeds, not too many, whether or not they can be done."""
    return is_list(value) and len(value) <= MOST_DEEDS and all([_is_deed(store.tree, deed) for deed in value])


def _is_deed(tree, value):
    if not isinstance(value, tuple):
        return False
    if len(value) == 2:
        return value[0] == "make" and value[1] in tree
    if len(value) != 3 or value[0] != "hand" or value[1] not in tree or value[2] not in tree:
        return False
    return is_road(tree, value[1], value[2])


def run(store, script):
    """The store behind a script."""
    if not is_script(store, script):
        raise InvalidScript(script)
    running = Running(store)
    for at, deed in enumerate(script):
        try:
            _do(running, deed)
        except (NothingToMake, NothingUnderWay):
            raise Stopped(at) from None
    return running


def _do(running, deed):
    if deed[0] == "make":
        running.make(deed[1])
    else:
        running.hand(deed[1], deed[2])
