"""Whole pasts: for each house at once what had come to it by a moment."""

from looksleft.checks import is_list
from looksleft.errors import InvalidPast
from looksleft.looks import check_moment, look_of_lot
from looksleft.lots import greatest_cut, least_cut
from looksleft.order import sure_everywhere, writes_of
from looksleft.pictures import check_looks_fit, find_picture
from looksleft.stores import is_lot


def _check_moment(store, looks, moment):
    check_looks_fit(store, looks)
    check_moment(moment)


def least_past(store, looks, moment):
    """For each house the least lot that can have come to it by the moment."""
    _check_moment(store, looks, moment)
    return [writes_of(bits) for bits in least_cut(store, looks, sure_everywhere(store, looks), moment)]


def greatest_past(store, looks, moment):
    """For each house the greatest lot that can have come to it by the moment."""
    _check_moment(store, looks, moment)
    return [writes_of(bits) for bits in greatest_cut(store, looks, sure_everywhere(store, looks), moment)]


def is_past(store, value):
    """Whether a value has, for each house, a list of different writes."""
    return is_list(value) and len(value) == store.tree.houses and all([is_lot(store, lot) for lot in value])


def can_be_past(store, looks, moment, past):
    """Whether the lots of the past can have come to all houses at once by the moment."""
    return past_picture(store, looks, moment, past) is None


def past_picture(store, looks, moment, past):
    """A picture of the looks and of one look more of each house, by the past; None if the past can be."""
    _check_moment(store, looks, moment)
    if not is_past(store, past):
        raise InvalidPast(past)
    return find_picture(store, list(looks) + [look_of_lot(house, lot, moment) for house, lot in enumerate(past)])
