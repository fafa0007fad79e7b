"""Books and histories that fit looks."""

from looksleft.books import book_fault, deed_of, is_books, lines_in_order
from looksleft.checks import is_between, is_list
from looksleft.errors import Stopped
from looksleft.looks import Look, borders, check_looks
from looksleft.lots import least_cut
from looksleft.order import fill_books, sure_everywhere, writes_of
from looksleft.pictures import check_looks_fit
from looksleft.running import is_script, run


def is_fitting(store, looks, value):
    """Whether a value is the books of a history that fits the looks, their moments not minded."""
    check_looks(store, looks)
    if not is_books(store, value) or book_fault(store, value) is not None:
        return False
    return all([_begins_with(value[look.house], ahead) for look in looks for ahead in borders(look)])


def _begins_with(book, ahead):
    return sorted(book[:len(ahead)]) == list(ahead)


def history(store, looks):
    """The tuple of the books, the script and the places of a history that fits the looks."""
    check_looks_fit(store, looks)
    return find_history(store, looks)


def find_history(store, looks):
    """The tuple that history returns, for looks that fit, of which there may be any number."""
    moments = sorted({look.moment for look in looks if look.moment is not None})
    sure = sure_everywhere(store, looks)
    cuts = [least_cut(store, looks, sure, moment) for moment in moments]
    books, script, stops = history_by_cuts(store, looks, cuts)
    stop_of = dict(zip(moments, stops))
    return (books, script, [stop_of.get(look.moment) for look in looks])


def history_by_cuts(store, looks, cuts):
    """Books, a script and its stops, for looks that fit and for cuts, none of which falls behind the last one.

    A cut has, for each house, the bits of the writes that have come. It must be one of some history that
    fits the looks. The stops are the numbers of deeds behind which just these writes have come.
    """
    further = [_look_of_cuts(house, [told[house] for told in cuts]) for house in range(store.tree.houses)]
    books = fill_books(store, list(looks) + further)
    lines = lines_in_order(store, books)
    script = []
    stops = []
    for cut in cuts:
        script = script + [deed_of(store, house, write) for house, write in lines if cut[house] >> write & 1]
        lines = [(house, write) for house, write in lines if not cut[house] >> write & 1]
        stops.append(len(script))
    return (books, script + [deed_of(store, house, write) for house, write in lines], stops)


def _look_of_cuts(house, cuts):
    """The look that tells which writes come to the house up to each of the cuts."""
    steps = [cuts[at] ^ (cuts[at - 1] if at > 0 else 0) for at in range(len(cuts))]
    return Look(house, [writes_of(step) for step in steps if step])


def is_history(store, looks, value):
    """Whether a value is the books, the script and the places of a history that fits the looks."""
    check_looks(store, looks)
    if not isinstance(value, tuple) or len(value) != 3:
        return False
    books, script, places = value
    if not is_fitting(store, looks, books) or not has_books(store, script, books):
        return False
    return _are_places(looks, books, script, places)


def has_books(store, value, books):
    """Whether a value is the script of a history that has these books."""
    if not is_script(store, value):
        return False
    try:
        running = run(store, value)
    except Stopped:
        return False
    return all([running.book(house) == tuple(book) for house, book in enumerate(books)])


def _are_places(looks, books, script, value):
    """Whether a value is places for the looks in a script that has these books."""
    if not is_list(value) or len(value) != len(looks):
        return False
    if not all([_is_place(look, books, script, place) for look, place in zip(looks, value)]):
        return False
    told = [(look.moment, place) for look, place in zip(looks, value) if look.moment is not None]
    # So places do not fall as moments rise, and are the same where moments are.
    return all([place <= later for moment, place in told for other, later in told if moment <= other])


def _is_place(look, books, script, value):
    if look.moment is None:
        return value is None
    if not is_between(value, 0, len(script)):
        return False
    return come_behind(books, script, value, look.house) == list(look.come)


def come_behind(books, script, place, house):
    """The lot that has come to a house at a place of a script that has these books."""
    many = len([deed for deed in script[:place] if deed[-1] == house])
    return sorted(books[house][:many])
