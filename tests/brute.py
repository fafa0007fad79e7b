"""What the document says of stores and looks, found by search through all histories.

Nothing here calls the package: only the attributes of stores and looks are read. A state is a tuple
with, for each house, the tuple of the writes that have come to it.
"""

import functools
import itertools


def near(store):
    return near_by(store.tree.houses, store.tree.roads)


@functools.lru_cache(maxsize=None)
def near_by(houses, roads):
    found = {house: [] for house in range(houses)}
    for u, v in roads:
        found[u].append(v)
        found[v].append(u)
    return found


def start(store):
    return tuple(() for _ in range(store.tree.houses))


def path(store, a, b):
    """The houses from a to b."""
    return path_on(store.tree.roads, a, b)


@functools.lru_cache(maxsize=None)
def path_on(roads, a, b):
    rows = [[a]]
    while rows:
        row = rows.pop()
        if row[-1] == b:
            return row
        pairs = [pair for road in roads for pair in (road, road[::-1])]
        rows += [row + [house] for last, house in pairs if last == row[-1] and house not in row]
    raise AssertionError("no way")


def waiting(store, state, u, v):
    """The writes that are under way from u to v: those in u's book on v's far side that v lacks."""
    return [write for write in state[u] if v not in path(store, store.homes[write], u) and write not in state[v]]


def deeds(store, state):
    """Each deed that can be done, with the state behind it."""
    found = []
    for house in range(store.tree.houses):
        unmade = [write for write, home in enumerate(store.homes) if home == house and write not in state[house]]
        if unmade:
            found.append((("make", house), put(state, house, unmade[0])))
        for other in near(store)[house]:
            queue = waiting(store, state, house, other)
            if queue:
                found.append((("hand", house, other), put(state, other, queue[0])))
    return found


def put(state, house, write):
    return tuple(book + (write,) if at == house else book for at, book in enumerate(state))


def states_of(store, script):
    """The states ahead of, between and behind the deeds of a script, or None if they cannot be done."""
    states = [start(store)]
    for deed in script:
        further = dict(deeds(store, states[-1]))
        if deed not in further:
            return None
        states.append(further[deed])
    return states


def chance_script(store, chooser, books=None):
    """Some script of a history, also of one with given books."""
    state, script = start(store), []
    while True:
        further = [(deed, after) for deed, after in deeds(store, state)
                   if books is None or after[deed[-1]] == tuple(books[deed[-1]][:len(after[deed[-1]])])]
        if not further:
            return script
        deed, state = chooser.choice(further)
        script.append(deed)


class Search:
    """All states of a store, each with the deeds that can be done in it."""

    def __init__(self, store):
        self.store = store
        self.first = start(store)
        self.table = {}
        todo = [self.first]
        while todo:
            state = todo.pop()
            if state not in self.table:
                self.table[state] = deeds(store, state)
                todo += [after for _, after in self.table[state]]
        self.last = [state for state, further in self.table.items() if not further]

    def histories(self, state=None):
        """All scripts, each with all its states."""
        state = self.first if state is None else state
        if not self.table[state]:
            yield [], [state]
            return
        for deed, after in self.table[state]:
            for script, states in self.histories(after):
                yield [deed] + script, [state] + states

    def ends(self, looks, minded=True):
        """The books of all histories that fit the looks, their moments minded or not."""
        moments = sorted({look.moment for look in looks if look.moment is not None}) if minded else []
        known = {}

        def ends_from(state, done):
            if (state, done) not in known:
                known[(state, done)] = search(state, done)
            return known[(state, done)]

        def search(state, done):
            if not all(may_begin(look, state[look.house]) for look in looks):
                return frozenset()
            found = set()
            if not self.table[state] and done == len(moments):
                found.add(state)
            for _, after in self.table[state]:
                found |= ends_from(after, done)
            if done < len(moments) and all(set(state[look.house]) == come(look) for look in looks
                                           if look.moment == moments[done]):
                found |= ends_from(state, done + 1)
            return frozenset(found)

        return ends_from(self.first, 0)

    @functools.cached_property
    def sources(self):
        """For each state the states from which one deed leads to it."""
        found = {state: [] for state in self.table}
        for state, further in self.table.items():
            for _, after in further:
                found[after].append(state)
        return found

    def leading_to(self, ends):
        """All states from which some of the ends can still be reached."""
        found = set(ends)
        todo = list(found)
        while todo:
            for state in self.sources[todo.pop()]:
                if state not in found:
                    found.add(state)
                    todo.append(state)
        return found

    def cuts(self, looks, asked):
        """All states where a place for the asked moment can be in a history that fits the looks."""
        moments = sorted({look.moment for look in looks if look.moment is not None} | {asked})
        steps = {}
        todo = [(self.first, 0)]
        while todo:
            node = todo.pop()
            if node not in steps:
                steps[node] = list(self.further(looks, moments, node))
                todo += steps[node]
        right = {(state, len(moments)) for state in self.last if (state, len(moments)) in steps}
        for node in sorted(steps, key=lambda node: (node[1], sum(map(len, node[0]))), reverse=True):
            if any(after in right for after in steps[node]):
                right.add(node)
        at = moments.index(asked)
        return {state for state, done in right if done == at and (state, at + 1) in right and (state, at + 1) in steps[(state, at)]}

    def further(self, looks, moments, node):
        """The nodes (state, number of moments that are past) behind a node."""
        state, done = node
        for _, after in self.table[state]:
            if all(may_begin(look, after[look.house]) for look in looks):
                yield after, done
        if done < len(moments) and all(set(state[look.house]) == come(look) for look in looks if look.moment == moments[done]):
            yield state, done + 1

    def clock_cuts(self, looks, pairs, before=(), behind=()):
        """All states where a further place can be, in a history that fits the looks and with a place for each look.

        Moments are not minded. The places keep the pairs, and the further one stands between those of before and behind.
        """
        further = len(looks)
        pairs = [*pairs, *((index, further) for index in before), *((further, index) for index in behind)]
        steps = {}
        todo = [(self.first, frozenset())]
        while todo:
            node = todo.pop()
            if node not in steps:
                steps[node] = list(self.clock_steps(looks, pairs, node))
                todo += steps[node]
        right = {(state, frozenset(range(further + 1))) for state in self.last} & set(steps)
        for node in sorted(steps, key=lambda node: (sum(map(len, node[0])), len(node[1])), reverse=True):
            if any(after in right for after in steps[node]):
                right.add(node)
        return {state for state, placed in right for after in steps[(state, placed)]
                if after in right and further in after[1] and further not in placed}

    def clock_steps(self, looks, pairs, node):
        """The nodes (state, indices that have a place) behind a node; the index behind those of the looks goes anywhere."""
        state, placed = node
        left = [at for at in range(len(looks) + 1) if at not in placed]
        for _, after in self.table[state]:
            late = any(len(after[looks[at].house]) > len(come(looks[at])) for at in left if at < len(looks))
            if not late and all(may_begin(look, after[look.house]) for look in looks):
                yield after, placed
        able = [at for at in left if at == len(looks) or set(state[looks[at].house]) == come(looks[at])]
        for many in range(1, len(able) + 1):
            for chosen in itertools.combinations(able, many):
                both = placed | set(chosen)
                if all(i in both for i, j in pairs if j in both):
                    yield state, both


def surely(ends, house):
    """All (x, z) of which x is ahead of z in the book of the house in each of the ends."""
    writes = range(len(next(iter(ends))[house]))
    places = [{write: at for at, write in enumerate(end[house])} for end in ends]
    return [(x, z) for x in writes for z in writes if all(place[x] < place[z] for place in places)]


def come(look):
    return {write for lot in look.lots for write in lot}


def may_begin(look, book):
    """Whether a book that has come so far can still go on as the lots of the look tell."""
    at = 0
    for lot in look.lots:
        part = book[at:at + len(lot)]
        if not set(part) <= set(lot):
            return False
        at += len(lot)
    return True
