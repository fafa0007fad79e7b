"""Point 12 for whole, clocks, partly and balance: stores of 16 houses and 12 writes with 9 looks.

No search goes through such stores. Instead each history is followed deed by deed, and each ring by the words of the document.
"""

import itertools
import random
import unittest

from looksleft.ahead import ahead
from looksleft.balance import copies, exchanges, last_lot, own_lines, parting
from looksleft.clocks import clock_history, clock_ring, is_clock_ring, is_pairs, sooner_by, sooner_pairs
from looksleft.errors import NeverWritten, NoClock, NoMoment, NotSooner
from looksleft.looks import Look
from looksleft.partly import can_have_by, greatest_by, least_by
from looksleft.pasts import greatest_past, least_past
from looksleft.stores import Store
from looksleft.whole import is_past_history, past_history, resume
from tests import brute, cases
from tests.test_balance import all_counts, told_exchange, told_last, told_parting
from tests.test_clocks import all_sooner, is_right_ring, keeps_clock, some_pairs, told_sooner
from tests.test_histories import keeps_all
from tests.test_limits import big_stores, chance_run, nine_looks
from tests.test_partly import with_between
from tests.test_shown import last_of
from tests.test_whole import all_moments, bent_stops, keeps_past
from tests.tools import LooksleftCase


def placed_looks(states, chooser):
    """Nine looks taken in a history, each with its place as its moment."""
    houses = len(states[0])
    looks = []
    for _ in range(9):
        place, house = chooser.randrange(len(states)), chooser.randrange(houses)
        lots = cases.in_lots(chooser, states[place][house], 0.5)
        looks.append(Look(house, lots, moment=place))
    return looks


def all_leading(store, looks, pairs, targets):
    """All looks that lead to one of some looks, by the words of the document."""
    steps = set(pairs) | set(all_sooner(store, looks))
    found = set(targets)
    for _ in looks:
        found |= {i for i, j in steps if j in found}
    return found


def told_between(store, looks, pairs, house, before, behind):
    """The least and the greatest lot, by the words of point 123."""
    sure = ahead(store, [Look(look.house, look.lots) for look in looks], house)
    due = {write for at in all_leading(store, looks, pairs, before) for write in brute.come(looks[at])
           if house in brute.path(store, store.homes[write], looks[at].house)}
    led_to = {at for at in range(len(looks)) if all_leading(store, looks, pairs, [at]) & set(behind)}
    barred = {write for at in led_to for write in range(len(store)) if write not in looks[at]
              and looks[at].house in brute.path(store, store.homes[write], house)}
    low = due | {x for x, z in sure if z in due}
    high = {write for write in range(len(store)) if write not in barred and not any(x in barred and z == write for x, z in sure)}
    return sorted(low), sorted(high)


class TestLimits(LooksleftCase):

    def runs(self, seed):
        """Tuples (store, states, chooser), the greatest stores and some that are less great."""
        chooser = random.Random(seed)
        for store in big_stores():
            yield store, chance_run(store, chooser)[1], chooser
        for _ in range(15):
            store, _ = cases.middle_case(chooser)
            yield store, brute.states_of(store, brute.chance_script(store, chooser)), chooser

    def test_past_histories(self):
        for store, states, chooser in self.runs(51):
            looks = nine_looks(states, chooser) if store.tree.houses == 16 else placed_looks(states, chooser)
            for greatest in (False, True):
                lots_by = greatest_past if greatest else least_past
                lots = {moment: [set(lot) for lot in lots_by(store, looks, moment)] for moment in all_moments(looks)}
                books, script, stops = past_history(store, looks, greatest=greatest)
                self.assertTrue(keeps_past(store, looks, (books, script, stops), lots))
                self.assertIs(is_past_history(store, looks, (books, script, stops), greatest=greatest), True)
                for bent in chooser.sample(list(bent_stops(stops, chooser)), 1 + 3 * bool(stops)):
                    expected = keeps_past(store, looks, (books, script, bent), lots)
                    self.assertIs(is_past_history(store, looks, (books, script, bent), greatest=greatest), expected)

    def test_resume(self):
        for store, states, chooser in self.runs(52):
            looks = placed_looks(states, chooser)
            running, places = resume(store, looks)
            state = tuple(running.book(house) for house in range(store.tree.houses))
            self.assertEqual([sorted(book) for book in state], least_past(store, looks, max(all_moments(looks))))
            while brute.deeds(store, state):
                deed, state = chooser.choice(brute.deeds(store, state))
                getattr(running, deed[0])(*deed[1:])
            self.assertIs(running.finished, True)
            self.assertTrue(keeps_all(store, looks, (list(state), list(running.script), places)))
            bare = looks[:8] + [Look(looks[8].house, looks[8].lots)]
            self.refuses(NoMoment, {"look": 8}, resume, store, bare)

    def test_clocks(self):
        kinds = []
        for store, states, chooser in self.runs(53):
            looks = placed_looks(states, chooser)
            sooner = sooner_pairs(store, looks)
            self.assertEqual(sooner, all_sooner(store, looks))
            for i, j in itertools.product(range(9), repeat=2):
                if (i, j) in sooner:
                    self.assertEqual(sooner_by(store, looks, i, j), told_sooner(store, looks, i, j)[0])
                else:
                    self.refuses(NotSooner, {"i": i, "j": j}, sooner_by, store, looks, i, j)
            # What the moments tell can be so; what is drawn may make a ring.
            right = sorted((i, j) for i, j in itertools.permutations(range(9), 2) if looks[i].moment <= looks[j].moment)
            self.check_pairs(store, looks, right)
            for _ in range(3):
                kinds.append(self.check_pairs(store, looks, some_pairs(chooser, 9, 6)))
        self.assertEqual(set(kinds), {True, False})

    def check_pairs(self, store, looks, pairs):
        self.assertIs(is_pairs(store, looks, pairs), True)
        ring = clock_ring(store, looks, pairs)
        if ring is None:
            self.assertTrue(keeps_clock(store, looks, pairs, clock_history(store, looks, pairs)))
            return True
        self.assertTrue(is_right_ring(store, looks, pairs, ring))
        self.assertIs(is_clock_ring(store, looks, pairs, ring), True)
        self.assertIs(is_clock_ring(store, looks, pairs, ring[::-1]), is_right_ring(store, looks, pairs, ring[::-1]))
        self.assertRaises(NoClock, clock_history, store, looks, pairs)
        return False

    def test_partly(self):
        rings = 0
        for store, states, chooser in self.runs(54):
            looks = placed_looks(states, chooser)[:8]
            for _ in range(4):
                pairs = some_pairs(chooser, 8, 3)
                before, behind = [chooser.sample(range(8), chooser.randint(0, 2)) for _ in range(2)]
                if clock_ring(store, looks, with_between(pairs, before, behind)) is not None:
                    rings += 1
                    self.assertRaises(NoClock, least_by, store, looks, pairs, 0, before=before, behind=behind)
                    continue
                self.check_between(store, looks, pairs, chooser.randrange(store.tree.houses), before, behind, chooser)
        self.assertGreater(rings, 5)

    def check_between(self, store, looks, pairs, house, before, behind, chooser):
        between = {"before": before, "behind": behind}
        low, high = least_by(store, looks, pairs, house, **between), greatest_by(store, looks, pairs, house, **between)
        self.assertEqual((low, high), told_between(store, looks, pairs, house, before, behind))
        further = sorted([*pairs, *((b, 8) for b in before), *((8, a) for a in behind)])
        mixed = sorted(set(low) | {write for write in high if chooser.random() < 0.4})
        for lot in (low, high, mixed, chooser.sample(range(len(store)), len(store) // 2)):
            # A lot can have come just if a history fits the looks and one more look with this lot between them.
            told = looks + [Look(house, [lot] if lot else [])]
            can_be = can_have_by(store, looks, pairs, house, lot, **between)
            self.assertTrue(can_be or lot not in (low, high))
            if can_be:
                self.assertTrue(keeps_clock(store, told, further, clock_history(store, told, further)))
            else:
                with self.assertRaises(ValueError):
                    clock_history(store, told, further)

    def test_nine_looks_partly(self):
        for store, states, chooser in self.runs(55):
            looks = placed_looks(states, chooser)
            right = sorted((i, j) for i, j in itertools.permutations(range(9), 2) if looks[i].moment <= looks[j].moment)
            at = chooser.randrange(9)
            place = looks[at].moment
            for house in range(store.tree.houses):
                between = {"before": [at], "behind": [at]}
                expected = told_between(store, looks, right, house, [at], [at])
                self.assertEqual((least_by(store, looks, right, house, **between), greatest_by(store, looks, right, house, **between)), expected)
                self.assertIs(can_have_by(store, looks, right, house, sorted(states[place][house]), **between), True)

    def test_balance(self):
        for store, states, chooser in self.runs(56):
            store = Store(store.tree, store.homes, cells=[chooser.choice([0, 0, 2, 5]) for _ in store.homes])
            books = [list(book) for book in states[-1]]
            for cell, count in chooser.sample(all_counts(store), 8):
                house = chooser.randrange(store.tree.houses)
                self.assertEqual(last_lot(store, books, house, count, cell=cell), sorted(told_last(store, books[house], count, cell)))
                found = exchanges(store, books, count, cell=cell)
                self.assertEqual(found, [told_exchange(store, books, count, cell, u, v) for u, v in store.tree.roads])
                self.assertEqual(sum(len(gone) for _, _, gone, _ in found), count - own_lines(store, books, count, cell=cell))
            self.assertEqual(copies(store, books), [tuple(last_of(store, book, cell) for cell in range(6)) for book in books])
            for cell in range(6):
                if cell in store.cells:
                    self.assertEqual(parting(store, books, cell), (told_parting(store, books, cell) + [None])[0])
                else:
                    self.refuses(NeverWritten, {"cell": cell}, parting, store, books, cell)


if __name__ == "__main__":
    unittest.main()
