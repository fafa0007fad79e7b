"""Whole books: their faults, their line moments, their scripts and their standings."""

from looksleft.checks import are_between, is_full_row, is_list, is_whole
from looksleft.errors import Faulty, InvalidBooks, InvalidCounts, Torn
from looksleft.running import run
from looksleft.stores import is_write
from looksleft.trees import both_ways, is_road, on_side


def is_books(store, value):
    """Whether a value has, for each house, a list with each write once."""
    if not is_list(value) or len(value) != store.tree.houses:
        return False
    return all([is_full_row(book, len(store)) for book in value])


def check_books(store, books):
    """Refuse a value that is not books of the store."""
    if not is_books(store, books):
        raise InvalidBooks(books)


def check_faultless(store, books):
    """Refuse a value that is not books of a history."""
    fault = book_fault(store, books)
    if fault is not None:
        raise Faulty(fault)


def book_fault(store, books):
    """A fault of the books, or None."""
    check_books(store, books)
    lines = _line_numbers(books)
    for a, home in enumerate(store.homes):
        for b in range(len(store)):
            if _is_own_fault(store, lines, home, a, b):
                return ("own", home, a, b)
    for u, v in both_ways(store.tree):
        fault = _road_fault(store, lines, u, v)
        if fault is not None:
            return fault
    return None


def _road_fault(store, lines, u, v):
    """A fault with u as its first house and v as its second one, or None."""
    near = [write for write, home in enumerate(store.homes) if on_side(store.tree, u, v, home)]
    for a in near:
        for b in range(len(store)):
            if b in near and _are_turned(lines, u, v, a, b):
                return ("one", u, v, a, b)
            if b not in near and _are_turned(lines, u, v, b, a):
                return ("two", u, v, a, b)
    return None


def _are_turned(lines, u, v, first, second):
    """Whether of two writes the first one is ahead at u, and the second one at v."""
    return lines[u][first] < lines[u][second] and lines[v][second] < lines[v][first]


def is_book_fault(store, books, value):
    """Whether a value is a fault of the books."""
    check_books(store, books)
    if not isinstance(value, tuple) or len(value) not in (4, 5):
        return False
    if not all([house in store.tree for house in value[1:-2]]):
        return False
    if not all([is_write(store, write) for write in value[-2:]]):
        return False
    lines = _line_numbers(books)
    if len(value) == 4:
        kind, house, a, b = value
        return kind == "own" and _is_own_fault(store, lines, house, a, b)
    kind, u, v, a, b = value
    if not is_road(store.tree, u, v):
        return False
    if kind == "one":
        return _is_one_fault(store, lines, u, v, a, b)
    return kind == "two" and _is_two_fault(store, lines, u, v, a, b)


def _line_numbers(books):
    """For each house a dict with, for each write, the index of its line."""
    return [{write: at for at, write in enumerate(book)} for book in books]


def _is_own_fault(store, lines, house, a, b):
    if a >= b or store.homes[a] != house or store.homes[b] != house:
        return False
    return lines[house][b] < lines[house][a]


def _is_one_fault(store, lines, u, v, a, b):
    if not on_side(store.tree, u, v, store.homes[a]) or not on_side(store.tree, u, v, store.homes[b]):
        return False
    return _are_turned(lines, u, v, a, b)


def _is_two_fault(store, lines, u, v, a, b):
    if not on_side(store.tree, u, v, store.homes[a]) or not on_side(store.tree, v, u, store.homes[b]):
        return False
    return _are_turned(lines, u, v, b, a)


def origin(store, house, write):
    """The neighbour from which a write comes to a house; the house itself if it is the home."""
    return store.tree.step(house, store.homes[write])


def earliest(store, books):
    """The line moments of which each is as small as can be."""
    check_faultless(store, books)
    return least_moments(store, books)


def least_moments(store, books):
    """The least line moments of books that are known to have no fault."""
    # In each round a house takes the lines that have come to the house they come from.
    came = [{} for _ in books]
    many = 0
    while many < len(books) * len(store):
        for house in range(len(books)):
            many = many + _take_lines(store, books, came, house)
    return [[came[house][write] for write in book] for house, book in enumerate(books)]


def _take_lines(store, books, came, house):
    """Give moments to the next lines of a house as far as can be; return to how many."""
    mine = came[house]
    already = len(mine)
    last = max(list(mine.values()), default=0)
    for write in books[house][already:]:
        neighbour = origin(store, house, write)
        if neighbour != house:
            if write not in came[neighbour]:
                break
            last = max(last, came[neighbour][write])
        last += 1
        mine[write] = last
    return len(mine) - already


def is_moments(store, books, value):
    """Whether a value is line moments of the books."""
    if book_fault(store, books) is not None:
        return False
    if not is_list(value) or len(value) != len(books):
        return False
    if not all([_are_numbers(moments, len(store)) for moments in value]):
        return False
    lines = _line_numbers(books)
    return all([_moments_ascend(store, books, lines, value, house) for house in range(len(books))])


def _are_numbers(value, many):
    return is_list(value) and len(value) == many and all([is_whole(item) for item in value])


def _moments_ascend(store, books, lines, moments, house):
    mine = moments[house]
    for at, write in enumerate(books[house]):
        neighbour = origin(store, house, write)
        if at > 0 and mine[at] <= mine[at - 1]:
            return False
        if neighbour != house and mine[at] <= moments[neighbour][lines[neighbour][write]]:
            return False
    return True


def deed_of(store, house, write):
    """The deed by which a write comes to a house."""
    neighbour = origin(store, house, write)
    return ("make", house) if neighbour == house else ("hand", neighbour, house)


def script_of(store, books):
    """A script of a history with these books."""
    check_faultless(store, books)
    return [deed_of(store, house, write) for house, write in lines_in_order(store, books)]


def lines_in_order(store, books):
    """The tuples (house, write) of all lines of faultless books, in an order in which they can come."""
    moments = least_moments(store, books)
    lines = [(moments[house][at], house, write) for house, book in enumerate(books) for at, write in enumerate(book)]
    return [(house, write) for _, house, write in sorted(lines)]


def seen(store, books):
    """The tuples (a, b) of writes such that a was seen by the writer of b."""
    check_faultless(store, books)
    lines = _line_numbers(books)
    writes = range(len(store))
    return [(a, b) for a in writes for b in writes if lines[store.homes[b]][a] < lines[store.homes[b]][b]]


def is_standing(store, books, value):
    """Whether a value is a standing of the books."""
    check_faultless(store, books)
    return _are_counts(store, value) and _tear(store, books, value) is None


def stand(store, books, counts):
    """A running in which the book of each house is just its first lines."""
    check_faultless(store, books)
    if not _are_counts(store, counts):
        raise InvalidCounts(counts)
    tear = _tear(store, books, counts)
    if tear is not None:
        raise Torn(tear[0], tear[1], tear[2])
    first = _first_lines(books, counts)
    lines = lines_in_order(store, books)
    return run(store, [deed_of(store, house, write) for house, write in lines if write in first[house]])


def _are_counts(store, value):
    return are_between(value, 0, len(store)) and len(value) == store.tree.houses


def _first_lines(books, counts):
    return [list(book[:count]) for book, count in zip(books, counts)]


def _tear(store, books, counts):
    """The least (u, v, write) with a first line of v that came from u and is none of u, or None."""
    first = _first_lines(books, counts)
    for u, v in both_ways(store.tree):
        for write in first[v]:
            if origin(store, v, write) == u and write not in first[u]:
                return (u, v, write)
    return None
