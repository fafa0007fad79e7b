"""Needless looks, the fewest books that tell all books, and the stretches that show they are the fewest."""

from looksleft.books import check_faultless
from looksleft.checks import are_between, are_different, is_between, is_list
from looksleft.errors import InvalidIndex, NotARow, SameHome
from looksleft.looks import Look
from looksleft.order import sure_everywhere
from looksleft.pictures import check_looks_fit
from looksleft.trees import check_house, ends, neighbours, way


def needless(store, looks):
    """The indices of all looks that can be left out alone and nothing changes in what is surely ahead."""
    check_looks_fit(store, looks)
    told = sure_everywhere(store, looks)
    return [at for at in range(len(looks)) if sure_everywhere(store, looks[:at] + looks[at + 1:]) == told]


def is_needs(store, books, value):
    """Whether a value is a list of different houses that tell the books."""
    check_faultless(store, books)
    if not are_between(value, 0, store.tree.houses - 1) or not are_different(value):
        return False
    # A house tells its book as a look does with a border behind each write.
    looks = [Look(house, [[write] for write in books[house]]) for house in value]
    return all([_is_told(sure, book) for sure, book in zip(sure_everywhere(store, looks), books)])


def _is_told(sure, book):
    """Whether each line of a book is surely ahead of the next one."""
    return all([sure[book[at + 1]] >> book[at] & 1 for at in range(len(book) - 1)])


def stretch(store, books, house, index):
    """The houses of the stretch of two lines of a book."""
    check_faultless(store, books)
    check_house(store.tree, house)
    if not is_between(index, 0, len(store) - 2):
        raise InvalidIndex(index)
    x, y = books[house][index:index + 2]
    if store.homes[x] == store.homes[y]:
        raise SameHome(x, y)
    return _stretch_of(store, books, house, index)


def _stretch_of(store, books, house, index):
    x, y = books[house][index:index + 2]
    passed = way(store.tree, house, store.homes[y])
    return [other for other, book in enumerate(books)
            if book.index(x) < book.index(y) and _meets(passed, way(store.tree, other, store.homes[x]))]


def _meets(passed, other):
    return any([house in other for house in passed])


def _has_stretch(store, books, house, index):
    """Whether the homes of the line with the index and of the next one are unlike."""
    return store.homes[books[house][index]] != store.homes[books[house][index + 1]]


def needs(store, books):
    """As few houses as can be that tell the books, in a tree whose houses stand in a row."""
    return sorted([met for met, _, _ in _picked(store, books)])


def apart(store, books):
    """As many lines as can be, no two of whose stretches meet, in a tree whose houses stand in a row."""
    return sorted([(house, index) for _, house, index in _picked(store, books)])


def _picked(store, books):
    """For stretches of which no two meet, tuples (met, house, index); the houses met are in all stretches."""
    check_faultless(store, books)
    _check_row(store.tree)
    houses = way(store.tree, ends(store.tree)[0], ends(store.tree)[-1])
    picked = []
    reached = -1
    # Stretches have no gaps in a row. So the last house of the one that ends first is the best one to take.
    for last, first, house, index in _stretches_by_last(store, books, houses):
        if first > reached:
            reached = last
            picked.append((houses[last], house, index))
    return picked


def _check_row(tree):
    for house in range(tree.houses):
        if len(neighbours(tree, house)) > 2:
            raise NotARow(house)


def _stretches_by_last(store, books, houses):
    """For all stretches tuples of their last and first places in the row of houses, their house and index."""
    place = {house: at for at, house in enumerate(houses)}
    found = []
    for house in houses:
        for index in range(len(store) - 1):
            if _has_stretch(store, books, house, index):
                places = [place[other] for other in _stretch_of(store, books, house, index)]
                found.append((max(places), min(places), house, index))
    return sorted(found)


def is_apart(store, books, value):
    """Whether a value is a list of tuples (house, index) of lines no two of whose stretches meet."""
    check_faultless(store, books)
    if not is_list(value) or not all([_is_place(store, books, item) for item in value]):
        return False
    return are_different([other for house, index in value for other in _stretch_of(store, books, house, index)])


def _is_place(store, books, value):
    """Whether a value is a tuple (house, index) of a line that has a stretch."""
    if not isinstance(value, tuple) or len(value) != 2 or value[0] not in store.tree:
        return False
    return is_between(value[1], 0, len(store) - 2) and _has_stretch(store, books, value[0], value[1])
