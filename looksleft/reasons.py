"""Why a write had come to a house by a moment or had not, and histories in which a lot has come."""

from looksleft.ahead import is_paper_unless_same, paper_unless_same
from looksleft.checks import is_between
from looksleft.errors import CannotHave, Open
from looksleft.histories import find_history
from looksleft.looks import look_of_lot
from looksleft.lots import asked_order, told_come, told_missing, wrong_bits
from looksleft.order import bits_of, with_all_ahead, writes_of
from looksleft.stores import check_lot, check_write, is_write


def why_come(store, looks, house, moment, write):
    """A tuple (look, other, paper) that shows why the write had come to the house by the moment."""
    sure = asked_order(store, looks, house, moment)
    check_write(store, write)
    for at, look in enumerate(looks):
        for other in told_come(store, look, house, moment):
            if with_all_ahead(sure, 1 << other) >> write & 1:
                return (at, other, paper_unless_same(store, looks, house, write, other))
    raise Open(write)


def why_missing(store, looks, house, moment, write):
    """A tuple (look, other, paper) that shows why the write had not come to the house by the moment."""
    sure = asked_order(store, looks, house, moment)
    check_write(store, write)
    for at, look in enumerate(looks):
        for other in told_missing(store, look, house, moment):
            if with_all_ahead(sure, 1 << write) >> other & 1:
                return (at, other, paper_unless_same(store, looks, house, other, write))
    raise Open(write)


def is_why_come(store, looks, house, moment, write, value):
    """Whether a value shows why the write had come to the house by the moment."""
    asked_order(store, looks, house, moment)
    check_write(store, write)
    if not _is_reason(store, looks, value):
        return False
    at, other, paper = value
    shows = other in told_come(store, looks[at], house, moment)
    return shows and is_paper_unless_same(store, looks, house, write, other, paper)


def is_why_missing(store, looks, house, moment, write, value):
    """Whether a value shows why the write had not come to the house by the moment."""
    asked_order(store, looks, house, moment)
    check_write(store, write)
    if not _is_reason(store, looks, value):
        return False
    at, other, paper = value
    shows = other in told_missing(store, looks[at], house, moment)
    return shows and is_paper_unless_same(store, looks, house, other, write, paper)


def _is_reason(store, looks, value):
    """Whether a value is a tuple of the index of a look, a write and something more."""
    if not isinstance(value, tuple) or len(value) != 3:
        return False
    return is_between(value[0], 0, len(looks) - 1) and is_write(store, value[1])


def have_history(store, looks, house, moment, lot):
    """A history, as history tells it, for the looks and one more at which just the lot has come."""
    sure = asked_order(store, looks, house, moment)
    check_lot(store, lot)
    wrong = wrong_bits(store, looks, sure, house, moment, bits_of(lot))
    if wrong:
        raise CannotHave(writes_of(wrong)[0])
    return find_history(store, list(looks) + [look_of_lot(house, lot, moment)])
