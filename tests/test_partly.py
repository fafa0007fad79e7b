"""Point 123: the lots that can have come to a house between looks, by pairs of looks."""

import random
import unittest

from looksleft.clocks import is_clock_ring
from looksleft.come import can_have, greatest, least
from looksleft.errors import DoNotFit, InvalidHouse, InvalidList, InvalidLooks, InvalidLot, InvalidPairs, NoClock
from looksleft.looks import Look
from looksleft.partly import can_have_by, greatest_by, least_by
from looksleft.stores import Store
from looksleft.trees import Tree
from tests import cases
from tests.test_clocks import clock_cases, is_right_ring, some_pairs
from tests.test_come import lots_by, subsets
from tests.tools import LooksleftCase, line_tree, no_numbers, odd_values, star_tree

STAR = Store(star_tree(4), [1, 2])
LOOKS = [Look(3, [[1]]), Look(1, []), Look(1, [[0]])]
LINE = Store(line_tree(3), [0, 0, 2])
THREE = [Look(0, []), Look(0, [[0]]), Look(0, [[0, 1]])]


def with_between(pairs, before, behind):
    """The pairs together with what `before` and `behind` tell of their looks."""
    return sorted({*pairs, *((b, a) for b in before for a in behind if a != b)})


def some_indices(chooser, looks):
    return chooser.sample(range(len(looks)), chooser.choice([0, 0, 1, 1, 2, len(looks)]) if len(looks) > 1 else len(looks))


def wrong_lists():
    """Values that are no lists of different indices of three looks."""
    return [None, True, 0, "", "0", {}, {"0": 0}, LOOKS, LOOKS[0], STAR, [3], [-1], [0, 0], (1, 2, 1), [True], [0, False], [None], ["0"],
            [[0]], [(0, 1)], [0, 1, 2, 3], 10 ** 19, [10 ** 19]]


class TestLots(LooksleftCase):

    def check_house(self, store, looks, pairs, house, right, between):
        low = [write for write in range(len(store)) if all(write in lot for lot in right)]
        high = [write for write in range(len(store)) if any(write in lot for lot in right)]
        self.assertEqual(least_by(store, looks, pairs, house, **between), low)
        self.assertEqual(greatest_by(store, looks, pairs, house, **between), high)
        self.assertTrue(tuple(low) in right and tuple(high) in right)
        for lot in subsets(store):
            self.assertIs(can_have_by(store, looks, pairs, house, list(lot)[::-1], **between), lot in right)

    def test_against_all_histories_and_all_their_places(self):
        kinds, rings = set(), 0
        for search, looks, chooser in clock_cases(131, 450, 25):
            store = search.store
            pairs = some_pairs(chooser, len(looks), 2)
            before, behind = some_indices(chooser, looks), some_indices(chooser, looks)
            cuts = search.clock_cuts(looks, pairs, before, behind)
            told = with_between(pairs, before, behind)
            if not cuts:
                rings += 1
                self.check_ring(store, looks, pairs, told, {"before": before, "behind": behind})
                continue
            for house in range(store.tree.houses):
                self.check_house(store, looks, pairs, house, lots_by(cuts, house), {"before": before, "behind": tuple(behind)})
            kinds.add((min(len(before), 2), min(len(behind), 2), bool(set(before) & set(behind)), bool(pairs)))
        self.assertLessEqual({(many, other, False, told) for many in range(3) for other in range(2) for told in (True, False)}, kinds)
        self.assertTrue({kind[2] for kind in kinds} == {True, False} and rings > 30)

    def check_ring(self, store, looks, pairs, told, between):
        for function, args in ((least_by, (0,)), (greatest_by, (0,)), (can_have_by, (0, []))):
            with self.assertRaises(NoClock) as caught:
                function(store, looks, pairs, *args, **between)
            self.assertEqual(list(vars(caught.exception)), ["ring"])
            self.assertTrue(is_right_ring(store, looks, told, caught.exception.ring))
            self.assertIs(is_clock_ring(store, looks, told, caught.exception.ring), True)

    def test_one_index_in_both_lists_is_the_place_of_this_look(self):
        for search, looks, _ in clock_cases(132, 150, 10):
            for at, look in enumerate(looks):
                between = {"before": [at], "behind": [at]}
                told = [list(look.come)] * 2
                self.assertEqual([least_by(search.store, looks, [], look.house, **between),
                                  greatest_by(search.store, looks, [], look.house, **between)], told)
                cuts = search.clock_cuts(looks, [], [at], [at])
                for house in range(search.store.tree.houses):
                    self.check_house(search.store, looks, [], house, lots_by(cuts, house), between)

    def test_looks_that_lead_over_pairs_and_over_sooner_looks(self):
        self.assertEqual(least_by(STAR, LOOKS, [(0, 1)], 0, before=[2]), [1])
        self.assertEqual(least_by(STAR, LOOKS, [], 0, before=[2]), [])
        self.assertEqual(least_by(STAR, LOOKS, [(0, 1)], 0, before=[1]), [1])
        self.assertEqual(least_by(STAR, LOOKS, [(1, 0)], 0, before=[2]), [])
        self.assertEqual(greatest_by(STAR, LOOKS, [], 0, behind=[1]), [1])
        looks = [Look(1, []), Look(2, []), Look(2, [[1]]), Look(3, [])]
        self.assertEqual(greatest_by(STAR, looks, [], 0, behind=[1]), [0])
        self.assertEqual(greatest_by(STAR, looks, [(1, 0)], 0, behind=[1]), [])
        self.assertEqual(greatest_by(STAR, looks, [(2, 0)], 0, behind=[1]), [])
        self.assertEqual(greatest_by(STAR, looks, [(2, 0)], 0, behind=[2]), [1])
        self.assertEqual(greatest_by(STAR, looks, [(0, 2)], 0, behind=[1]), [0])

    def test_nothing_told(self):
        self.assertEqual((least_by(STAR, LOOKS, [], 0), greatest_by(STAR, LOOKS, [], 0)), ([], [0, 1]))
        self.assertEqual([can_have_by(STAR, LOOKS, [], 0, lot) for lot in ([], [0], [1], [1, 0])], [True, False, True, True])
        self.assertEqual([can_have_by(STAR, LOOKS[1:], [], 0, lot) for lot in ([], [0], [1], [1, 0])], [True] * 4)
        self.assertEqual([can_have_by(LINE, [], [], 1, lot) for lot in ([1], [0, 1], (2,), (2, 1))], [False, True, True, False])
        self.assertEqual(can_have_by(LINE, [Look(1, [[2], [0]])], [], 1, [0]), False)
        self.assertEqual(can_have_by(Store(line_tree(2), []), [], [], 1, []), True)
        self.assertEqual(greatest_by(Store(Tree(1, []), [0, 0]), [], [], 0), [0, 1])

    def test_moments_mean_nothing(self):
        looks = [Look(0, [], moment=9), Look(0, [[0]], moment=5), Look(0, [[0, 1]], moment=5)]
        for house in range(3):
            for before, behind in (([], []), ([0], [1]), ([1], []), ([2], [2]), ([], [0])):
                between = {"before": before, "behind": behind}
                for function in (least_by, greatest_by):
                    self.assertEqual(function(LINE, looks, [], house, **between), function(LINE, THREE, [], house, **between))

    def test_as_by_moments(self):
        # Moments told to the full are pairs told to the full.
        for search, looks, _ in cases.fitting_looks(133, 150, 10):
            timed = [at for at, look in enumerate(looks) if look.moment is not None]
            pairs = sorted((i, j) for i in timed for j in timed if i != j and looks[i].moment <= looks[j].moment)
            for moment in (0, 2, 5):
                between = {"before": [at for at in timed if looks[at].moment <= moment],
                           "behind": [at for at in timed if looks[at].moment >= moment]}
                for house in range(search.store.tree.houses):
                    args = (search.store, looks, pairs, house)
                    self.assertEqual(least_by(*args, **between), least(search.store, looks, house, moment))
                    self.assertEqual(greatest_by(*args, **between), greatest(search.store, looks, house, moment))
                    for lot in subsets(search.store):
                        self.assertIs(can_have_by(*args, lot, **between), can_have(search.store, looks, house, moment, lot))


class TestErrors(LooksleftCase):

    def calls(self, store, looks, pairs=None, house=None, lot=None, **between):
        return [(least_by, (store, looks, pairs, house), between), (greatest_by, (store, looks, pairs, house), between),
                (can_have_by, (store, looks, pairs, house, lot), between)]

    def test_looks_first(self):
        for wrong in (None, {}, "", 0, [Look(16, [])], [Look(0, [])] * 10, [[0]], [None], Look(0, [])):
            for function, args, between in self.calls(STAR, wrong, before=None, behind=None):
                self.refuses_given(InvalidLooks, wrong, function, *args, **between)

    def test_looks_that_do_not_fit_without_their_moments(self):
        for search, looks in cases.some_looks(134, 200):
            bare = [Look(look.house, look.lots) for look in looks]
            for function, args, between in self.calls(search.store, looks, before=None, behind=None):
                if search.ends(bare):
                    self.refuses_given(InvalidPairs, None, function, *args, **between)
                    continue
                with self.assertRaises(DoNotFit) as caught:
                    function(*args, **between)
                self.assertNotEqual(caught.exception.picture[0], "time")

    def test_pairs_then_houses_then_lots_then_lists(self):
        for wrong in ([(1, 0), (0, 1)], [(0, 0)], [[2, 1]], {}, [(0, 3)], [(True, 0)]):
            for function, args, between in self.calls(STAR, LOOKS, wrong, before=None, behind=None):
                self.refuses_given(InvalidPairs, wrong, function, *args, **between)
        for wrong in no_numbers() + [-1, 4]:
            for function, args, between in self.calls(STAR, LOOKS, [(2, 1)], wrong, before=None, behind=None):
                self.refuses_given(InvalidHouse, wrong, function, *args, **between)
        for wrong in (None, True, 0, "", {}, STAR, LOOKS[0], [0, 0], (1, 0, 1), [True], [0, False], [2], [-1], ["0"], [[0]]):
            function, args, between = self.calls(STAR, LOOKS, [(2, 1)], 0, wrong, before=None, behind=None)[2]
            self.refuses_given(InvalidLot, wrong, function, *args, **between)

    def test_lists_and_then_a_ring(self):
        for wrong in wrong_lists():
            for function, args, between in self.calls(STAR, LOOKS, [(2, 1)], 0, [], before=wrong, behind=[wrong]):
                self.refuses_given(InvalidList, wrong, function, *args, **between)
            for function, args, between in self.calls(STAR, LOOKS, [(2, 1)], 0, [], before=[0], behind=wrong):
                self.refuses_given(InvalidList, wrong, function, *args, **between)
        for function, args, between in self.calls(STAR, [], [], 0, [], before=[0]):
            self.refuses_given(InvalidList, between["before"], function, *args, **between)

    def test_a_ring_of_the_pairs_and_of_what_the_lists_tell(self):
        for pairs, before, behind in (([(2, 1)], [], []), ([], [2], [1]), ([], (2, 0), (0, 1)), ([(0, 1)], [2], [0]), ([(2, 0)], [0], [1])):
            told = with_between(pairs, before, behind)
            for function, args, between in self.calls(STAR, LOOKS, pairs, 0, [], before=before, behind=behind):
                with self.assertRaises(NoClock) as caught:
                    function(*args, **between)
                self.assertTrue(is_right_ring(STAR, LOOKS, told, caught.exception.ring))
        for before, behind in (([1], [2]), ([0, 1], [0, 2]), ([2], [2]), ([2], [0])):
            self.assertIs(can_have_by(STAR, LOOKS, [], 1, [0], before=before, behind=behind), True)


class TestArguments(LooksleftCase):

    def test_by_position_and_by_name(self):
        names, args = ["store", "looks", "pairs", "house"], [STAR, LOOKS, [(0, 1)], 0]
        self.assertEqual(self.same(least_by, names, args), [])
        self.assertEqual(self.same(greatest_by, names, args), [0, 1])
        self.assertIs(self.same(can_have_by, names + ["lot"], args + [[1]]), True)
        named = dict(zip(names, args))
        self.assertEqual(least_by(before=[2], **named), [1])
        self.assertEqual(greatest_by(behind=(1,), before=(0,), **named), [1])
        self.assertIs(can_have_by(lot=[0], before=[2], behind=[], **named), False)
        for function, more in ((least_by, ()), (greatest_by, ()), (can_have_by, ([],))):
            with self.assertRaises(TypeError):
                function(*args, *more, [2])

    def test_lists_and_tuples(self):
        for kind in (list, tuple):
            self.assertEqual(least_by(STAR, kind(LOOKS), kind([(0, 1)]), 0, before=kind([2]), behind=kind([])), [1])
            self.assertEqual(greatest_by(STAR, kind(LOOKS), kind([(0, 1)]), 0, before=kind([]), behind=kind([1])), [1])
            self.assertIs(can_have_by(STAR, kind(LOOKS), kind([]), 0, kind([1]), before=kind([0, 1]), behind=kind([2])), True)

    def test_answers_are_new_and_lists_that_change(self):
        looks, pairs, before, behind = list(LOOKS), [(0, 1)], [2], []
        for function in (least_by, greatest_by):
            told = function(STAR, looks, pairs, 0, before=before, behind=behind)
            expected = list(told)
            told.append(9)
            self.assertEqual(function(STAR, looks, pairs, 0, before=before, behind=behind), expected)
        self.assertEqual((looks, pairs, before, behind), (LOOKS, [(0, 1)], [2], []))
        before.clear()
        self.assertEqual(least_by(STAR, looks, pairs, 0, before=before), [])
        behind.append(1)
        self.assertEqual(greatest_by(STAR, looks, pairs, 0, behind=behind), [1])
        pairs.append((2, 1))
        with self.assertRaises(NoClock) as caught:
            least_by(STAR, looks, pairs, 0)
        caught.exception.ring.clear()
        with self.assertRaises(NoClock) as caught:
            least_by(STAR, looks, pairs, 0)
        self.assertTrue(is_right_ring(STAR, looks, pairs, caught.exception.ring))

    def test_equal_answers_for_equal_objects_behind_other_calls(self):
        chooser = random.Random(135)
        lists = []
        for search, looks, _ in clock_cases(135, 150):
            house = chooser.randrange(search.store.tree.houses)
            lists.append((search.store, looks, some_pairs(chooser, len(looks), 2), house, some_indices(chooser, looks), some_indices(chooser, looks)))
        first = [self.answer(*told) for told in lists]
        for (store, looks, pairs, house, before, behind), answer in reversed(list(zip(lists, first))):
            store, looks = cases.equal_ones(store, looks)
            self.assertEqual(self.answer(store, looks, tuple(pairs), house, tuple(before), tuple(behind)), answer)

    def answer(self, store, looks, pairs, house, before, behind):
        between = {"before": before, "behind": behind}
        try:
            return least_by(store, looks, pairs, house, **between), greatest_by(store, looks, pairs, house, **between)
        except NoClock as error:
            return error.ring

    def test_odd_values_as_lists(self):
        for value in odd_values():
            if isinstance(value, (list, tuple)) and list(value) in ([], [0], [0, 1], [1, 0]) and not any(type(item) is bool for item in value):
                self.assertEqual(least_by(STAR, LOOKS, [], 0, before=value), [1] if 0 in value else [])
                continue
            for name in ("before", "behind"):
                self.refuses_given(InvalidList, value, least_by, STAR, LOOKS, [], 0, **{name: value})


if __name__ == "__main__":
    unittest.main()
