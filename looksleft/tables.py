"""Tables: what all copies can show of a cell when all is finished."""

from looksleft.checks import are_between
from looksleft.errors import InvalidTable
from looksleft.stores import check_written, made_in, written
from looksleft.trees import on_side


def all_tables(store, cell):
    """All tables of a cell that somebody wrote, as tuples."""
    last = _last_of_homes(store, cell)
    found = [(write,) * store.tree.houses for write in last]
    for u, v in store.tree.roads:
        nearer = [write for write in last if on_side(store.tree, u, v, store.homes[write])]
        farther = [write for write in last if write not in nearer]
        found = found + [_parted_table(store, u, v, first, second) for first in nearer for second in farther]
    return found


def _last_of_homes(store, cell):
    """The greatest write of the cell of each home."""
    last = {store.homes[write]: write for write in written(store, cell)}
    return list(last.values())


def _parted_table(store, u, v, first, second):
    """The table in which the second write stands on u's side of a road and the first one on v's side."""
    return tuple([second if on_side(store.tree, u, v, house) else first for house in range(store.tree.houses)])


def is_last_table(store, cell, value):
    """Whether a value is a table of the cell."""
    check_written(store, cell)
    return are_between(value, 0, len(store) - 1) and tuple(value) in all_tables(store, cell)


def count_last_tables(store, cell):
    """The number of tables of the cell."""
    check_written(store, cell)
    return len(all_tables(store, cell))


def table_books(store, cell, table):
    """Books of a history behind which the copies show the table."""
    if not is_last_table(store, cell, table):
        raise InvalidTable(table)
    # Each write of the table is the last one of its home, made behind all writes of further homes,
    # and no write of the one home of the table is seen by the writer of the other one.
    homes = sorted({store.homes[write] for write in table})
    early = [write for write, home in enumerate(store.homes) if home not in homes]
    return [early + _of_home_last(store, homes, store.homes[write]) for write in table]


def _of_home_last(store, homes, last):
    """The writes of some homes, those of one of them behind all others."""
    others = [write for home in homes if home != last for write in made_in(store, home)]
    return others + made_in(store, last)
