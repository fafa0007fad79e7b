"""Looks: what is told of one house, and lists of such."""

from looksleft.checks import are_different, is_between, is_list, is_whole
from looksleft.errors import InvalidFirsts, InvalidHouse, InvalidLooks, InvalidLots, InvalidMoment
from looksleft.stores import is_write, made_in
from looksleft.trees import check_house

MOST_LOOKS = 9


def check_moment(moment):
    """Refuse a value that is not an integer."""
    if not is_whole(moment):
        raise InvalidMoment(moment)


class Look:
    """A look; it never changes."""

    def __init__(self, house, lots, *, moment=None):
        if not _is_counted(house):
            raise InvalidHouse(house)
        if not _are_lots(lots):
            raise InvalidLots(lots)
        if moment is not None:
            check_moment(moment)
        self.house = house
        self.lots = tuple([tuple(sorted(lot)) for lot in lots])
        self.moment = moment

    def __len__(self):
        return len(self.lots)

    def __contains__(self, value):
        return is_whole(value) and value in self.come

    def __iter__(self):
        return iter(self.lots)

    def __eq__(self, other):
        return (isinstance(other, Look) and self.house == other.house
                and self.lots == other.lots and self.moment == other.moment)

    @property
    def come(self):
        """All writes that had come, ascending."""
        return tuple(sorted([write for lot in self.lots for write in lot]))


def _is_counted(value):
    return is_whole(value) and value >= 0


def _are_lots(value):
    if not is_list(value) or not all([is_list(lot) and len(lot) > 0 for lot in value]):
        return False
    writes = [write for lot in value for write in lot]
    return all([_is_counted(write) for write in writes]) and are_different(writes)


def borders(look):
    """For each border of a look the writes ahead of it, ascending."""
    if len(look) == 0:
        return ((),)
    return tuple([tuple(sorted([write for lot in look.lots[:at + 1] for write in lot])) for at in range(len(look))])


def is_looks(store, value):
    """Whether a value is a list of looks of the store, not too many."""
    return is_list(value) and len(value) <= MOST_LOOKS and all([is_look_of(store, look) for look in value])


def is_look_of(store, value):
    """Whether a value is a look whose house and writes are those of the store."""
    if not isinstance(value, Look) or value.house not in store.tree:
        return False
    return all([is_write(store, write) for write in value.come])


def check_looks(store, looks):
    """Refuse a value that is not a list of looks of the store."""
    if not is_looks(store, looks):
        raise InvalidLooks(looks)


def look_of_lot(house, lot, moment):
    """The look at which just the writes of a lot had come: in one lot, and without lots if there are none."""
    return Look(house, [lot] if lot else [], moment=moment)


def count_look(store, house, firsts, *, moment=None):
    """The look at which, of the writes of each house, just the first so many had come."""
    check_house(store.tree, house)
    if not _are_firsts(store, firsts):
        raise InvalidFirsts(firsts)
    come = [write for home, many in enumerate(firsts) for write in made_in(store, home)[:many]]
    return look_of_lot(house, come, moment)


def _are_firsts(store, value):
    if not is_list(value) or len(value) != store.tree.houses:
        return False
    return all([is_between(many, 0, len(made_in(store, home))) for home, many in enumerate(value)])
