"""Histories in which just the least or the greatest lots have come to all houses at once, and going on from there."""

from looksleft.checks import is_between, is_list, is_whole
from looksleft.errors import NoMoment
from looksleft.histories import come_behind, has_books, history_by_cuts, is_fitting
from looksleft.lots import greatest_cut, least_cut
from looksleft.order import sure_everywhere, writes_of
from looksleft.pictures import check_looks_fit
from looksleft.running import run


def _all_moments(looks):
    """The different moments of looks, ascending."""
    return sorted({look.moment for look in looks if look.moment is not None})


def _all_cuts(store, looks, greatest):
    """For each moment of the looks, for each house, the bits of the least lots or of the greatest ones."""
    sure = sure_everywhere(store, looks)
    if greatest:
        return [greatest_cut(store, looks, sure, moment) for moment in _all_moments(looks)]
    return [least_cut(store, looks, sure, moment) for moment in _all_moments(looks)]


def past_history(store, looks, *, greatest=False):
    """Books, a script and its stops, behind each of which just the least or greatest lots by a moment have come."""
    check_looks_fit(store, looks)
    books, script, places = history_by_cuts(store, looks, _all_cuts(store, looks, greatest))
    return (books, script, list(zip(_all_moments(looks), places)))


def is_past_history(store, looks, value, *, greatest=False):
    """Whether a value is books, a script and stops as past_history tells them."""
    check_looks_fit(store, looks)
    if not isinstance(value, tuple) or len(value) != 3:
        return False
    books, script, stops = value
    if not is_fitting(store, looks, books) or not has_books(store, script, books):
        return False
    moments = _all_moments(looks)
    if not _are_stops(moments, len(script), stops):
        return False
    # At a stop by its moment a look has just its own writes at its house, so that the history fits all looks.
    return all([_has_come(books, script, place, cut)
                for (_, place), cut in zip(stops, _all_cuts(store, looks, greatest))])


def _are_stops(moments, many, value):
    """Whether a value is a list of stops for these moments in a script of so many deeds."""
    if not is_list(value) or len(value) != len(moments):
        return False
    if not all([_is_stop(moment, many, item) for moment, item in zip(moments, value)]):
        return False
    return all([value[at][1] <= value[at + 1][1] for at in range(len(value) - 1)])


def _is_stop(moment, many, value):
    if not isinstance(value, tuple) or len(value) != 2 or not is_whole(value[0]):
        return False
    return value[0] == moment and is_between(value[1], 0, many)


def _has_come(books, script, place, cut):
    """Whether just the writes of a cut have come to all houses at a place of a script that has these books."""
    return all([come_behind(books, script, place, house) == writes_of(bits) for house, bits in enumerate(cut)])


def resume(store, looks):
    """A running at the least lots by the greatest moment of the looks, and the places of the looks in its script."""
    check_looks_fit(store, looks)
    for at, look in enumerate(looks):
        if look.moment is None:
            raise NoMoment(at)
    _, script, stops = past_history(store, looks)
    place_of = dict(stops)
    done = max([place for _, place in stops], default=0)
    return (run(store, script[:done]), [place_of[look.moment] for look in looks])
