"""Arrows, what they make surely ahead, and books that keep this order.

A lot of writes is told as an integer here, its bits: bit w is set if the write w is in the lot.
"""

from looksleft.looks import Look, borders


def bits_of(writes):
    """The bits of a lot of writes."""
    bits = 0
    for write in writes:
        bits = bits | 1 << write
    return bits


def writes_of(bits):
    """The writes whose bits are set, ascending."""
    return [write for write in range(bits.bit_length()) if bits >> write & 1]


def without(bits, other):
    """The bits of a lot that are none of another lot."""
    return bits ^ bits & other


def pairs_of(row):
    """The tuples (x, z) for all bits x of all items z of a row of bits."""
    return [(x, z) for z, bits in enumerate(row) for x in writes_of(bits)]


def passing(store, target):
    """For each house the bits of the writes for which it is on the way from their home to the target."""
    over = [0] * store.tree.houses
    for write, home in enumerate(store.homes):
        for house in store.tree.passed(home, target):
            over[house] = over[house] | 1 << write
    return over


def arrow_table(store, looks):
    """For each house and each write z the bits of all writes from which an arrow leads to z there."""
    table = [[0] * len(store) for _ in range(store.tree.houses)]
    for look in looks:
        add_arrows(store, table, look)
    return table


def add_arrows(store, table, look):
    """Put the arrows by one look more into a table of arrows."""
    over = passing(store, look.house)
    for ahead in borders(look):
        bits = bits_of(ahead)
        behind = [write for write in range(len(store)) if write not in ahead]
        for house in range(store.tree.houses):
            begin = bits & over[house]
            # At most houses no arrow of the border begins; to leave these out saves much of the time.
            if begin:
                for z in behind:
                    table[house][z] = table[house][z] | begin


def _ahead_within_two(row, z):
    """The bits of the writes from which one or two of a house's arrows lead to z."""
    bits = row[z]
    for write in writes_of(row[z]):
        bits = bits | row[write]
    return bits


def surely_ahead(store, table, house):
    """For each write z the bits of the writes that are surely ahead of z at the house, if the looks fit."""
    found = [bits_of([x for x in range(z) if store.homes[x] == home]) for z, home in enumerate(store.homes)]
    for z, home in enumerate(store.homes):
        for q in store.tree.passed(home, house):
            found[z] = found[z] | _ahead_within_two(table[q], z)
    return found


def sure_at(store, looks, house):
    """What surely_ahead tells of a house by looks that fit."""
    return surely_ahead(store, arrow_table(store, looks), house)


def sure_everywhere(store, looks):
    """For each house what surely_ahead tells of it by looks that fit."""
    table = arrow_table(store, looks)
    return [surely_ahead(store, table, house) for house in range(store.tree.houses)]


def with_all_ahead(sure, bits):
    """The bits of a lot together with all writes that are surely ahead of its writes."""
    closed = bits
    for write in writes_of(bits):
        closed = closed | sure[write]
    return closed


def ready_writes(sure, bits):
    """The writes outside a lot for which all that are surely ahead of them are in it."""
    return [z for z in range(len(sure)) if not bits >> z & 1 and sure[z] & bits == sure[z]]


def least_row(sure):
    """The least row of all writes that keeps what is surely ahead."""
    row = []
    bits = 0
    while len(row) < len(sure):
        # Being surely ahead is an order, so that some write is always ready.
        row.append(ready_writes(sure, bits)[0])
        bits = bits | 1 << row[-1]
    return row


def fill_books(store, looks):
    """Books that fit looks which are known to fit, their moments not minded."""
    table = arrow_table(store, looks)
    books = []
    for house in range(store.tree.houses):
        # Each row that keeps the order is the book of the house in some history that fits.
        # So the looks still fit with this book told, too, and the next house can follow it.
        row = least_row(surely_ahead(store, table, house))
        add_arrows(store, table, Look(house, [[write] for write in row]))
        books.append(row)
    return books
