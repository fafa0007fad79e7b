"""Which lots can have come to a house by a moment, as bits; the looks must fit."""

from looksleft.looks import check_moment
from looksleft.order import bits_of, passing, sure_at, with_all_ahead, without, writes_of
from looksleft.pictures import check_asked


def asked_order(store, looks, house, moment):
    """What is surely ahead at a house, behind the checks of looks, house and moment."""
    check_asked(store, looks, house)
    check_moment(moment)
    return sure_at(store, looks, house)


def come_over(store, look, house):
    """The writes that had come at the look over the house, so that they had come there no later."""
    over = passing(store, look.house)[house]
    return [write for write in look.come if over >> write & 1]


def missing_over(store, look, house):
    """The writes that had not come at the look, over whose house they come, so that they had not come there sooner."""
    over = passing(store, house)[look.house]
    return [write for write in writes_of(over) if write not in look]


def told_come(store, look, house, moment):
    """The writes of which the look alone tells that they had come to the house by the moment."""
    if look.moment is None or look.moment > moment:
        return []
    return come_over(store, look, house)


def told_missing(store, look, house, moment):
    """The writes of which the look alone tells that they had not come to the house by the moment."""
    if look.moment is None or look.moment < moment:
        return []
    return missing_over(store, look, house)


def all_without(sure, missing):
    """The bits of all writes that are none of a lot and ahead of which none of the lot surely is."""
    return bits_of([write for write in range(len(sure)) if not with_all_ahead(sure, 1 << write) & missing])


def least_bits(store, looks, sure, house, moment):
    """The bits of the least lot that can have come to the house by the moment."""
    come = bits_of([write for look in looks for write in told_come(store, look, house, moment)])
    return with_all_ahead(sure, come)


def greatest_bits(store, looks, sure, house, moment):
    """The bits of the greatest lot that can have come to the house by the moment."""
    missing = bits_of([write for look in looks for write in told_missing(store, look, house, moment)])
    return all_without(sure, missing)


def least_cut(store, looks, sure, moment):
    """For each house the bits of the least lot, by what is surely ahead at each house."""
    return [least_bits(store, looks, sure[house], house, moment) for house in range(store.tree.houses)]


def greatest_cut(store, looks, sure, moment):
    """For each house the bits of the greatest lot, by what is surely ahead at each house."""
    return [greatest_bits(store, looks, sure[house], house, moment) for house in range(store.tree.houses)]


def wrong_bits(store, looks, sure, house, moment, bits):
    """The bits of writes that show why a lot cannot have come, or 0 if it can.

    They are those of the least lot that it lacks, else its own ones outside the greatest lot, else those that it
    lacks though they are surely ahead of its own ones.
    """
    lacked = without(least_bits(store, looks, sure, house, moment), bits)
    too_many = without(bits, greatest_bits(store, looks, sure, house, moment))
    return lacked or too_many or without(with_all_ahead(sure, bits), bits)


def can_come(store, looks, sure, house, moment):
    """The bits of all lots that can have come to the house by the moment."""
    low = least_bits(store, looks, sure, house, moment)
    found = [low]
    for write in writes_of(without(greatest_bits(store, looks, sure, house, moment), low)):
        found = found + [bits | 1 << write for bits in found]
    return [bits for bits in found if with_all_ahead(sure, bits) == bits]
