"""Which of two writes surely came to a house first, and the papers that show it."""

from looksleft.errors import NotAhead, SameWrite, SurelyAhead, TooManyLooks
from looksleft.looks import MOST_LOOKS, look_of_lot
from looksleft.order import arrow_table, bits_of, fill_books, pairs_of, sure_at, with_all_ahead, writes_of
from looksleft.pictures import arrow_border, check_asked, is_arrow, is_border
from looksleft.stores import check_lot, check_write, is_write
from looksleft.trees import way


def ahead(store, looks, house):
    """All tuples (x, z) of writes of which x is surely ahead of z at the house."""
    check_asked(store, looks, house)
    return sorted(pairs_of(sure_at(store, looks, house)))


def _check_writes(store, looks, house, x, z):
    check_asked(store, looks, house)
    check_write(store, x)
    check_write(store, z)


def _check_two(store, looks, house, x, z):
    _check_writes(store, looks, house, x, z)
    if x == z:
        raise SameWrite(x)


def _has(lot, write):
    """Whether a write is among the bits of a lot."""
    return lot >> write & 1 == 1


def is_ahead(store, looks, house, x, z):
    """Whether x is surely ahead of z at the house."""
    _check_writes(store, looks, house, x, z)
    return _has(sure_at(store, looks, house)[z], x)


def verdict(store, looks, house, x, z):
    """Whether x is surely ahead of z at the house, or behind it, or the looks leave it open."""
    _check_two(store, looks, house, x, z)
    sure = sure_at(store, looks, house)
    if _has(sure[z], x):
        return "ahead"
    return "behind" if _has(sure[x], z) else "open"


def why_ahead(store, looks, house, x, z):
    """A paper that shows why x is surely ahead of z at the house."""
    _check_two(store, looks, house, x, z)
    paper = find_paper(store, looks, house, x, z)
    if paper is None:
        raise NotAhead(x, z)
    return paper


def find_paper(store, looks, house, x, z):
    """A paper for two writes and a house, or None; the looks must fit."""
    if _is_own_pair(store, x, z):
        return ("own",)
    table = arrow_table(store, looks)
    passed = way(store.tree, store.homes[z], house)
    for q in passed:
        if _has(table[q][z], x):
            return ("one", q, arrow_border(store, looks, q, x, z))
    for q in passed:
        for w in writes_of(table[q][z]):
            if _has(table[q][w], x):
                return ("two", q, arrow_border(store, looks, q, x, w), w, arrow_border(store, looks, q, w, z))
    return None


def _is_own_pair(store, x, z):
    return x < z and store.homes[x] == store.homes[z]


def is_paper(store, looks, house, x, z, value):
    """Whether a value is a paper that shows why x is surely ahead of z at the house."""
    _check_two(store, looks, house, x, z)
    return shows_ahead(store, looks, house, x, z, value)


def shows_ahead(store, looks, house, x, z, value):
    """Whether a value is a paper for two writes and a house."""
    if not isinstance(value, tuple) or len(value) not in (1, 3, 5):
        return False
    if len(value) == 1:
        return value[0] == "own" and _is_own_pair(store, x, z)
    if value[1] not in store.tree or value[1] not in way(store.tree, store.homes[z], house):
        return False
    if not is_border(looks, value[2]):
        return False
    if len(value) == 3:
        return value[0] == "one" and is_arrow(store, looks, value[1], value[2], x, z)
    return value[0] == "two" and _are_two_arrows(store, looks, x, z, value)


def paper_unless_same(store, looks, house, x, z):
    """None for the same write twice, and otherwise a paper, if there is one."""
    return None if x == z else find_paper(store, looks, house, x, z)


def is_paper_unless_same(store, looks, house, x, z, value):
    """Whether a value is None for the same write twice, and otherwise a paper."""
    return value is None if x == z else shows_ahead(store, looks, house, x, z, value)


def _are_two_arrows(store, looks, x, z, value):
    _, q, border, w, other = value
    if not is_write(store, w) or not is_border(looks, other):
        return False
    return is_arrow(store, looks, q, border, x, w) and is_arrow(store, looks, q, other, w, z)


def behind_books(store, looks, house, x, z):
    """Books that fit the looks, with z ahead of x in the book of the house."""
    _check_two(store, looks, house, x, z)
    sure = sure_at(store, looks, house)
    if _has(sure[z], x):
        raise SurelyAhead(x, z)
    # x is not among those ahead of z, so it may come behind all of them.
    come = writes_of(with_all_ahead(sure, 1 << z))
    return fill_books(store, list(looks) + [look_of_lot(house, come, None)])


def closed(store, looks, house, lot):
    """The lot together with all writes that are surely ahead of one of its writes at the house."""
    check_asked(store, looks, house)
    check_lot(store, lot)
    return writes_of(with_all_ahead(sure_at(store, looks, house), bits_of(lot)))


def with_lot(store, looks, house, lot):
    """The looks and, behind them, a look of the house with the closed lot."""
    come = closed(store, looks, house, lot)
    many = len(looks) + 1
    if many > MOST_LOOKS:
        raise TooManyLooks(many)
    return list(looks) + [look_of_lot(house, come, None)]
