"""What copies can have shown of a cell by a moment, and what they can show at last."""

from looksleft.checks import is_whole
from looksleft.errors import NeverCommon, NeverLast, NeverShown
from looksleft.histories import find_history
from looksleft.looks import Look
from looksleft.lots import asked_order, greatest_bits, least_bits
from looksleft.order import bits_of, fill_books, sure_at, sure_everywhere, with_all_ahead, without, writes_of
from looksleft.pictures import check_asked, check_looks_fit
from looksleft.stores import check_write, written


def _precedes_any(sure, write, others):
    """Whether a write is surely ahead of one of some others."""
    return any([sure[other] >> write & 1 for other in others])


def shown(store, looks, house, moment, cell):
    """What the copy of the house can have shown of the cell by the moment: None first, then writes."""
    sure = asked_order(store, looks, house, moment)
    writes = written(store, cell)
    low = least_bits(store, looks, sure, house, moment)
    high = greatest_bits(store, looks, sure, house, moment)
    come = [write for write in writes if low >> write & 1]
    nothing = [] if come else [None]
    return nothing + [write for write in writes if high >> write & 1 and not _precedes_any(sure, write, come)]


def shown_history(store, looks, house, moment, cell, write):
    """A history, as history tells it, with one place more, where the copy of the house shows the write for the cell."""
    found = shown(store, looks, house, moment, cell)
    if not (write is None or is_whole(write)) or write not in found:
        raise NeverShown(write)
    sure = sure_at(store, looks, house)
    bits = least_bits(store, looks, sure, house, moment)
    if write is None:
        lots = _in_lots([bits])
    else:
        lots = _lots_around(sure, bits | with_all_ahead(sure, 1 << write), write)
    return find_history(store, list(looks) + [Look(house, lots, moment=moment)])


def _in_lots(parts):
    return [writes_of(bits) for bits in parts if bits]


def _lots_around(sure, bits, write):
    """The lots of a closed lot of bits in an order in which one of its writes comes as late as it can."""
    late = bits_of([other for other in writes_of(bits) if sure[other] >> write & 1])
    return _in_lots([without(bits, late | 1 << write), 1 << write, late])


def at_last(store, looks, house, cell):
    """The writes that the copy of the house shows for the cell behind some history that fits the looks."""
    check_asked(store, looks, house)
    return _last_ones(sure_at(store, looks, house), written(store, cell))


def _last_ones(sure, writes):
    """Those of some writes that are surely ahead of no other one of them."""
    return [write for write in writes if not _precedes_any(sure, write, writes)]


def last_books(store, looks, house, write):
    """Books of a history that fits the looks, with the write as the last one of its cell in the book of the house."""
    check_asked(store, looks, house)
    check_write(store, write)
    sure = sure_at(store, looks, house)
    if write not in _last_ones(sure, written(store, store.cells[write])):
        raise NeverLast(write)
    return _books_around(store, looks, sure, house, write)


def _books_around(store, looks, sure, house, write):
    """Books of a history that fits the looks, with the write as late in the book of the house as it can be."""
    lots = _lots_around(sure, (1 << len(store)) - 1, write)
    return fill_books(store, list(looks) + [Look(house, lots)])


def common(store, looks, cell):
    """The writes that the copies of all houses show for the cell behind some history that fits the looks."""
    check_looks_fit(store, looks)
    writes = written(store, cell)
    sure = sure_everywhere(store, looks)
    return [write for write in writes if not _precedes_any(sure[store.homes[write]], write, writes)]


def sure_common(store, looks, cell):
    """The write that the copies of all houses show for the cell behind every history that fits the looks, or None."""
    check_looks_fit(store, looks)
    writes = written(store, cell)
    sure = sure_everywhere(store, looks)
    for write in writes:
        # A write that comes last to its own home is made behind all others, so that it comes last everywhere.
        if all([sure[store.homes[write]][write] >> other & 1 for other in writes if other != write]):
            return write
    return None


def common_books(store, looks, write):
    """Books of a history that fits the looks, behind which the copies of all houses show the write for its cell."""
    check_looks_fit(store, looks)
    check_write(store, write)
    home = store.homes[write]
    sure = sure_at(store, looks, home)
    if _precedes_any(sure, write, written(store, store.cells[write])):
        raise NeverCommon(write)
    return _books_around(store, looks, sure, home, write)
