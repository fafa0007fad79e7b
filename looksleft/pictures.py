"""Arrows of looks, and the pictures that tell why looks do not fit."""

from looksleft.checks import is_between
from looksleft.errors import DoNotFit
from looksleft.looks import Look, borders, check_looks
from looksleft.order import arrow_table, pairs_of, passing, writes_of
from looksleft.stores import is_write
from looksleft.trees import check_house, way


def arrows(store, looks, house):
    """All arrows at the house, as tuples (x, z, look, border)."""
    check_looks(store, looks)
    check_house(store.tree, house)
    found = []
    for at, look in enumerate(looks):
        over = writes_of(passing(store, look.house)[house])
        for border, ahead in enumerate(borders(look)):
            behind = [write for write in range(len(store)) if write not in ahead]
            found = found + [(x, z, at, border) for x in over if x in ahead for z in behind]
    return sorted(found)


def is_arrow(store, looks, house, border, x, z):
    """Whether an arrow leads from x to z at the house by this border."""
    look = looks[border[0]]
    ahead = borders(look)[border[1]]
    return x in ahead and z not in ahead and house in way(store.tree, store.homes[x], look.house)


def arrow_border(store, looks, house, x, z):
    """The first border by which an arrow leads from x to z at the house."""
    for border in _all_borders(looks):
        if is_arrow(store, looks, house, border, x, z):
            return border
    return None


def _all_borders(looks):
    return [(at, border) for at, look in enumerate(looks) for border in range(len(borders(look)))]


def is_border(looks, value):
    """Whether a value is a border of the looks."""
    if not isinstance(value, tuple) or len(value) != 2 or not is_between(value[0], 0, len(looks) - 1):
        return False
    return is_between(value[1], 0, len(borders(looks[value[0]])) - 1)


def is_picture(store, looks, value):
    """Whether a value is a picture of the looks."""
    check_looks(store, looks)
    if not isinstance(value, tuple) or len(value) not in (4, 5):
        return False
    if len(value) == 5:
        return value[0] == "two" and _is_two(store, looks, value)
    if value[0] == "own":
        return _is_own(store, looks, value)
    if value[0] == "three":
        return _is_three(store, looks, value)
    return value[0] == "time" and _is_time(store, looks, value)


def _is_own(store, looks, value):
    _, border, a, b = value
    if not is_border(looks, border) or not is_write(store, a) or not is_write(store, b):
        return False
    ahead = borders(looks[border[0]])[border[1]]
    return a < b and store.homes[a] == store.homes[b] and b in ahead and a not in ahead


def _is_two(store, looks, value):
    _, border, other, x, y = value
    if not is_border(looks, border) or not is_border(looks, other):
        return False
    if not is_write(store, x) or not is_write(store, y):
        return False
    return any([is_arrow(store, looks, house, border, x, y) and is_arrow(store, looks, house, other, y, x)
                for house in range(store.tree.houses)])


def _is_three(store, looks, value):
    _, house, three, writes = value
    if house not in store.tree or not isinstance(three, tuple) or not isinstance(writes, tuple):
        return False
    if len(three) != 3 or not all([is_border(looks, border) for border in three]):
        return False
    if len(writes) != 3 or not all([is_write(store, write) for write in writes]):
        return False
    behind = writes[1:] + writes[:1]
    return all([is_arrow(store, looks, house, border, x, z) for border, x, z in zip(three, writes, behind)])


def _is_time(store, looks, value):
    _, i, j, write = value
    if not is_between(i, 0, len(looks) - 1) or not is_between(j, 0, len(looks) - 1):
        return False
    if looks[i].moment is None or looks[j].moment is None or looks[i].moment < looks[j].moment:
        return False
    return is_sooner_by(store, looks[i], looks[j], write)


def is_sooner_by(store, look, other, write):
    """Whether a write shows that a look is sooner than another one."""
    if write in look or write not in other:
        return False
    return look.house in way(store.tree, store.homes[write], other.house)


def sooner_writes(store, look, other):
    """All writes that show that a look is sooner than another one."""
    return [write for write in other.come if is_sooner_by(store, look, other, write)]


def picture(store, looks):
    """A picture of the looks, or None."""
    check_looks(store, looks)
    return find_picture(store, looks)


def find_picture(store, looks):
    """A picture of looks of the store, of which there may be any number, or None."""
    found = _find_own(store, looks)
    if found is None:
        found = _find_two_or_three(store, looks)
    if found is None:
        found = _find_time(store, looks)
    return found


def _find_own(store, looks):
    for at, look in enumerate(looks):
        for border, ahead in enumerate(borders(look)):
            for b in ahead:
                for a in range(b):
                    if store.homes[a] == store.homes[b] and a not in ahead:
                        return ("own", (at, border), a, b)
    return None


def _find_two_or_three(store, looks):
    table = arrow_table(store, looks)
    for house, row in enumerate(table):
        for x, y in pairs_of(row):
            if row[x] >> y & 1:
                border = arrow_border(store, looks, house, x, y)
                return ("two", border, arrow_border(store, looks, house, y, x), x, y)
    for house, row in enumerate(table):
        for x, y in pairs_of(row):
            for z in writes_of(row[x]):
                if row[z] >> y & 1:
                    ring = ((x, y), (y, z), (z, x))
                    three = tuple([arrow_border(store, looks, house, first, second) for first, second in ring])
                    return ("three", house, three, (x, y, z))
    return None


def _find_time(store, looks):
    told = [(look.moment, at) for at, look in enumerate(looks) if look.moment is not None]
    for moment, i in told:
        for other, j in told:
            for write in looks[j].come:
                if moment >= other and is_sooner_by(store, looks[i], looks[j], write):
                    return ("time", i, j, write)
    return None


def looks_fit(store, looks):
    """Whether the looks fit: whether some history fits them."""
    return picture(store, looks) is None


def check_fit(store, looks):
    """Refuse looks of the store that do not fit."""
    found = find_picture(store, looks)
    if found is not None:
        raise DoNotFit(found)


def check_looks_fit(store, looks):
    """Refuse a value that is not a list of looks of the store, and looks that do not fit."""
    check_looks(store, looks)
    check_fit(store, looks)


def bare_looks(store, looks):
    """The looks without their moments, behind the checks that they are looks of the store and fit without these."""
    check_looks(store, looks)
    bare = [Look(look.house, look.lots) for look in looks]
    check_fit(store, bare)
    return bare


def check_asked(store, looks, house):
    """Refuse what check_looks_fit refuses, and a value that is not a house."""
    check_looks_fit(store, looks)
    check_house(store.tree, house)
