"""Which write surely came to one house no later than another write came to another house."""

from looksleft.ahead import is_paper_unless_same, paper_unless_same
from looksleft.errors import NotSure, Sure
from looksleft.histories import history_by_cuts
from looksleft.order import pairs_of, passing, sure_at, with_all_ahead, writes_of
from looksleft.pictures import bare_looks
from looksleft.stores import check_write, is_write
from looksleft.trees import check_house


def _asked_looks(store, looks, house, other):
    """The looks without their moments, behind the checks that all functions here make first."""
    bare = bare_looks(store, looks)
    check_house(store.tree, house)
    check_house(store.tree, other)
    return bare


def _asked_of_writes(store, looks, house, other, x, z):
    """As _asked_looks, with the checks of two writes behind it."""
    bare = _asked_looks(store, looks, house, other)
    check_write(store, x)
    check_write(store, z)
    return bare


def _joining(store, looks, house, other):
    """For each z the bits of the writes that are z or surely ahead of it at other, and come there over house."""
    over = passing(store, other)[house]
    sure = sure_at(store, looks, other)
    return [with_all_ahead(sure, 1 << z) & over for z in range(len(store))]


def _come_before(store, looks, house, other):
    """For each z the bits of the writes that surely come to house no later than z comes to other."""
    sure = sure_at(store, looks, house)
    return [with_all_ahead(sure, bits) for bits in _joining(store, looks, house, other)]


def no_later(store, looks, house, other):
    """All tuples (x, z) of writes such that x surely comes to house no later than z comes to other."""
    bare = _asked_looks(store, looks, house, other)
    return sorted(pairs_of(_come_before(store, bare, house, other)))


def is_no_later(store, looks, house, other, x, z):
    """Whether x surely comes to house no later than z comes to other."""
    bare = _asked_of_writes(store, looks, house, other, x, z)
    return _come_before(store, bare, house, other)[z] >> x & 1 == 1


def why_no_later(store, looks, house, other, x, z):
    """A reason why x surely comes to house no later than z comes to other."""
    bare = _asked_of_writes(store, looks, house, other, x, z)
    sure = sure_at(store, bare, house)
    for y in writes_of(_joining(store, bare, house, other)[z]):
        if with_all_ahead(sure, 1 << y) >> x & 1:
            first = paper_unless_same(store, bare, house, x, y)
            return (y, first, paper_unless_same(store, bare, other, y, z))
    raise NotSure(x, z)


def is_why_no_later(store, looks, house, other, x, z, value):
    """Whether a value is a reason why x surely comes to house no later than z comes to other."""
    bare = _asked_of_writes(store, looks, house, other, x, z)
    if not isinstance(value, tuple) or len(value) != 3 or not is_write(store, value[0]):
        return False
    y, first, second = value
    if not passing(store, other)[house] >> y & 1:
        return False
    if not is_paper_unless_same(store, bare, house, x, y, first):
        return False
    return is_paper_unless_same(store, bare, other, y, z, second)


def earlier_standing(store, looks, house, other, x, z):
    """Books that fit the looks and a standing of them at which z has come to other and x not to house."""
    bare = _asked_of_writes(store, looks, house, other, x, z)
    # What must have come with z comes to all houses at once, and nothing else need have come anywhere.
    cut = [_come_before(store, bare, passed, other)[z] for passed in range(store.tree.houses)]
    if cut[house] >> x & 1:
        raise Sure(x, z)
    books = history_by_cuts(store, bare, [cut])[0]
    return (books, [len(writes_of(bits)) for bits in cut])
