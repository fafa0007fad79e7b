"""Looks whose moments do not count: which are sooner than others by themselves, and which are told not to be later."""

from looksleft.checks import are_between, are_different, is_between, is_list
from looksleft.errors import InvalidIndex, InvalidPairs, NoClock, NotSooner
from looksleft.histories import find_history
from looksleft.looks import Look, check_looks
from looksleft.pictures import bare_looks, sooner_writes


def sooner_pairs(store, looks):
    """All tuples (i, j) of indices such that look i is sooner than look j."""
    bare_looks(store, looks)
    return all_sooner(store, looks)


def all_sooner(store, looks):
    """What sooner_pairs returns, for looks that are known to fit."""
    indices = range(len(looks))
    return [(i, j) for i in indices for j in indices if sooner_writes(store, looks[i], looks[j])]


def sooner_by(store, looks, i, j):
    """The least write that makes look i sooner than look j."""
    bare_looks(store, looks)
    _check_index(looks, i)
    _check_index(looks, j)
    writes = sooner_writes(store, looks[i], looks[j])
    if not writes:
        raise NotSooner(i, j)
    return writes[0]


def _check_index(looks, index):
    if not is_between(index, 0, len(looks) - 1):
        raise InvalidIndex(index)


def are_indices(looks, value):
    """Whether a value is a list of different indices of looks."""
    return are_between(value, 0, len(looks) - 1) and are_different(value)


def is_pairs(store, looks, value):
    """Whether a value is pairs: each tells of a look that it is not later than another one."""
    check_looks(store, looks)
    return _are_pairs(looks, value)


def _are_pairs(looks, value):
    if not is_list(value) or not all([_is_pair(looks, item) for item in value]):
        return False
    return all([value[at] < value[at + 1] for at in range(len(value) - 1)])


def _is_pair(looks, value):
    return isinstance(value, tuple) and len(value) == 2 and are_indices(looks, value)


def check_pairs(store, looks, pairs):
    """Refuse looks that do not fit without their moments, and a value that is not pairs of them."""
    bare_looks(store, looks)
    if not _are_pairs(looks, pairs):
        raise InvalidPairs(pairs)


def clock_ring(store, looks, pairs):
    """A ring of the looks by these pairs, or None."""
    check_pairs(store, looks, pairs)
    return _find_ring(store, looks, pairs)


def _find_ring(store, looks, pairs):
    sooner = all_sooner(store, looks)
    for first, second in sooner:
        row = _row_of_steps(list(pairs) + sooner, second, first)
        if row is not None:
            return row[-1:] + row[:-1]
    return None


def _row_of_steps(steps, first, last):
    """A shortest row of looks from one to another one by steps, or None."""
    rows = [[first]]
    at = 0
    while at < len(rows) and rows[at][-1] != last:
        reached = [row[-1] for row in rows]
        further = sorted({j for i, j in steps if i == rows[at][-1] and j not in reached})
        rows = rows + [rows[at] + [look] for look in further]
        at += 1
    return rows[at] if at < len(rows) else None


def is_clock_ring(store, looks, pairs, value):
    """Whether a value is a ring of the looks by these pairs."""
    check_pairs(store, looks, pairs)
    if not are_indices(looks, value) or len(value) < 2:
        return False
    sooner = all_sooner(store, looks)
    steps = [(value[at - 1], value[at]) for at in range(len(value))]
    return all([step in sooner or step in pairs for step in steps]) and any([step in sooner for step in steps])


def check_clock(store, looks, pairs):
    """Refuse pairs of looks that cannot be so."""
    ring = _find_ring(store, looks, pairs)
    if ring is not None:
        raise NoClock(ring)


def clock_history(store, looks, pairs):
    """Books, a script and a place for each look in it, such that the places keep the pairs."""
    check_pairs(store, looks, pairs)
    check_clock(store, looks, pairs)
    moments = _fair_moments(pairs, all_sooner(store, looks), len(looks))
    timed = [Look(look.house, look.lots, moment=moment) for look, moment in zip(looks, moments)]
    return find_history(store, timed)


def _fair_moments(pairs, sooner, many):
    """Moments of so many looks without a ring, by which no look is later than pairs and sooner looks let it be."""
    steps = [(i, j, 0) for i, j in pairs] + [(i, j, 1) for i, j in sooner]
    moments = [0] * many
    # Without a ring no row of steps need go over a look twice to push a moment up, so that these rounds are enough.
    for _ in range(many):
        for i, j, least in steps:
            moments[j] = max(moments[j], moments[i] + least)
    return moments
