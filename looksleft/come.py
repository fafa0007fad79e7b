"""Which writes can have come to a house by a moment."""

from looksleft.checks import is_between
from looksleft.errors import InvalidIndex
from looksleft.lots import asked_order, can_come, greatest_bits, least_bits, wrong_bits
from looksleft.order import bits_of, writes_of
from looksleft.stores import check_lot, check_write


def least(store, looks, house, moment):
    """The least lot that can have come to the house by the moment."""
    sure = asked_order(store, looks, house, moment)
    return writes_of(least_bits(store, looks, sure, house, moment))


def greatest(store, looks, house, moment):
    """The greatest lot that can have come to the house by the moment."""
    sure = asked_order(store, looks, house, moment)
    return writes_of(greatest_bits(store, looks, sure, house, moment))


def can_have(store, looks, house, moment, lot):
    """Whether the lot can have come to the house by the moment."""
    sure = asked_order(store, looks, house, moment)
    check_lot(store, lot)
    return wrong_bits(store, looks, sure, house, moment, bits_of(lot)) == 0


def fate(store, looks, house, moment, write):
    """Whether the write surely had come to the house by the moment, or surely had not, or the looks leave it open."""
    sure = asked_order(store, looks, house, moment)
    check_write(store, write)
    if least_bits(store, looks, sure, house, moment) >> write & 1:
        return "come"
    return "open" if greatest_bits(store, looks, sure, house, moment) >> write & 1 else "missing"


def count_lots(store, looks, house, moment):
    """How many lots can have come to the house by the moment."""
    sure = asked_order(store, looks, house, moment)
    return len(can_come(store, looks, sure, house, moment))


def lot_at(store, looks, house, moment, index):
    """The lot with this number among those that can have come to the house by the moment."""
    sure = asked_order(store, looks, house, moment)
    found = can_come(store, looks, sure, house, moment)
    if not is_between(index, 0, len(found) - 1):
        raise InvalidIndex(index)
    return sorted([writes_of(bits) for bits in found])[index]
