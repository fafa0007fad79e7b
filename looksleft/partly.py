"""Which writes can have come to a house between looks, by pairs of looks of which one is not later than the other."""

from looksleft.clocks import all_sooner, are_indices, check_clock, check_pairs
from looksleft.errors import InvalidList
from looksleft.lots import all_without, come_over, missing_over
from looksleft.order import bits_of, sure_at, with_all_ahead, without, writes_of
from looksleft.stores import check_lot
from looksleft.trees import check_house


def least_by(store, looks, pairs, house, *, before=(), behind=()):
    """The least lot that can have come to the house not before some looks and not behind others."""
    _check_house_asked(store, looks, pairs, house)
    _check_between(store, looks, pairs, before, behind)
    return writes_of(_low_bits(store, looks, pairs, house, before))


def greatest_by(store, looks, pairs, house, *, before=(), behind=()):
    """The greatest lot that can have come to the house not before some looks and not behind others."""
    _check_house_asked(store, looks, pairs, house)
    _check_between(store, looks, pairs, before, behind)
    return writes_of(_high_bits(store, looks, pairs, house, behind))


def can_have_by(store, looks, pairs, house, lot, *, before=(), behind=()):
    """Whether the lot can have come to the house not before some looks and not behind others."""
    _check_house_asked(store, looks, pairs, house)
    check_lot(store, lot)
    _check_between(store, looks, pairs, before, behind)
    bits = bits_of(lot)
    lacked = without(_low_bits(store, looks, pairs, house, before), bits)
    too_many = without(bits, _high_bits(store, looks, pairs, house, behind))
    return not lacked and not too_many and with_all_ahead(sure_at(store, looks, house), bits) == bits


def _check_house_asked(store, looks, pairs, house):
    check_pairs(store, looks, pairs)
    check_house(store.tree, house)


def _check_between(store, looks, pairs, before, behind):
    for indices in (before, behind):
        if not are_indices(looks, indices):
            raise InvalidList(indices)
    # The asked place stands between them, so that none of the first looks may be later than one of the others.
    told = [(b, a) for b in before for a in behind if b != a]
    check_clock(store, looks, list(pairs) + told)


def _low_bits(store, looks, pairs, house, before):
    """The bits of the least lot that can have come to the house not before some looks."""
    steps = list(pairs) + all_sooner(store, looks)
    leading = _all_leading(steps, before)
    come = bits_of([write for at in leading for write in come_over(store, looks[at], house)])
    return with_all_ahead(sure_at(store, looks, house), come)


def _high_bits(store, looks, pairs, house, behind):
    """The bits of the greatest lot that can have come to the house not behind some looks."""
    steps = list(pairs) + all_sooner(store, looks)
    led_to = _all_leading([(j, i) for i, j in steps], behind)
    missing = bits_of([write for at in led_to for write in missing_over(store, looks[at], house)])
    return all_without(sure_at(store, looks, house), missing)


def _all_leading(steps, targets):
    """All looks from which a row of steps leads to one of some looks, these included."""
    found = list(targets)
    further = found
    while further:
        further = sorted({i for i, j in steps if j in found and i not in found})
        found = found + further
    return found
