"""What the document says of stores and looks, found by search through all histories.

Nothing here calls the package: only the attributes of stores and looks are read. A state is a tuple
with, for each house, the tuple of the writes that have come to it.
"""

import functools


def near(store):
    found = {house: [] for house in range(store.tree.houses)}
    for u, v in store.tree.roads:
        found[u].append(v)
        found[v].append(u)
    return found


def start(store):
    return tuple(() for _ in range(store.tree.houses))


def path(store, a, b):
    """The houses from a to b."""
    return path_on(store.tree.roads, a, b)


@functools.lru_cache(maxsize=None)
def path_on(roads, a, b):
    rows = [[a]]
    while rows:
        row = rows.pop()
        if row[-1] == b:
            return row
        pairs = [pair for road in roads for pair in (road, road[::-1])]
        rows += [row + [house] for last, house in pairs if last == row[-1] and house not in row]
    raise AssertionError("no way")


def waiting(store, state, u, v):
    """The writes that are under way from u to v: those in u's book on v's far side that v lacks."""
    return [write for write in state[u] if v not in path(store, store.homes[write], u) and write not in state[v]]


def deeds(store, state):
    """Each deed that can be done, with the state behind it."""
    found = []
    for house in range(store.tree.houses):
        unmade = [write for write, home in enumerate(store.homes) if home == house and write not in state[house]]
        if unmade:
            found.append((("make", house), put(state, house, unmade[0])))
        for other in near(store)[house]:
            queue = waiting(store, state, house, other)
            if queue:
                found.append((("hand", house, other), put(state, other, queue[0])))
    return found


def put(state, house, write):
    return tuple(book + (write,) if at == house else book for at, book in enumerate(state))


class Search:
    """All states of a store, each with the deeds that can be done in it."""

    def __init__(self, store):
        self.store = store
        self.first = start(store)
        self.table = {}
        todo = [self.first]
        while todo:
            state = todo.pop()
            if state not in self.table:
                self.table[state] = deeds(store, state)
                todo += [after for _, after in self.table[state]]
        self.last = [state for state, further in self.table.items() if not further]

    def histories(self, state=None):
        """All scripts, each with all its states."""
        state = self.first if state is None else state
        if not self.table[state]:
            yield [], [state]
            return
        for deed, after in self.table[state]:
            for script, states in self.histories(after):
                yield [deed] + script, [state] + states

    def ends(self, looks, minded=True):
        """The books of all histories that fit the looks, their moments minded or not."""
        moments = sorted({look.moment for look in looks if look.moment is not None}) if minded else []
        known = {}

        def ends_from(state, done):
            if (state, done) not in known:
                known[(state, done)] = search(state, done)
            return known[(state, done)]

        def search(state, done):
            if not all(may_begin(look, state[look.house]) for look in looks):
                return frozenset()
            found = set()
            if not self.table[state] and done == len(moments):
                found.add(state)
            for _, after in self.table[state]:
                found |= ends_from(after, done)
            if done < len(moments) and all(set(state[look.house]) == come(look) for look in looks
                                           if look.moment == moments[done]):
                found |= ends_from(state, done + 1)
            return frozenset(found)

        return ends_from(self.first, 0)


def come(look):
    return {write for lot in look.lots for write in lot}


def may_begin(look, book):
    """Whether a book that has come so far can still go on as the lots of the look tell."""
    at = 0
    for lot in look.lots:
        part = book[at:at + len(lot)]
        if not set(part) <= set(lot):
            return False
        at += len(lot)
    return True
