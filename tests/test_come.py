"""Points 91, 92 and 94: the lots that can have come to a house by a moment."""

import itertools
import random
import unittest

from looksleft.come import can_have, count_lots, fate, greatest, least, lot_at
from looksleft.errors import InvalidHouse, InvalidIndex, InvalidLot, InvalidMoment, InvalidWrite
from looksleft.looks import Look
from looksleft.stores import Store
from looksleft.trees import Tree
from tests import cases
from tests.tools import LooksleftCase, line_tree, no_numbers, star_tree

STAR = Store(star_tree(4), [1, 2, 3])
LOOKS = [Look(1, [[0, 2]], moment=5), Look(2, [[0, 1]], moment=6)]
UNFIT = [Look(0, [[0]], moment=1), Look(0, [], moment=2)]
WIDE = Store(line_tree(12), list(range(12)))


def subsets(store):
    writes = range(len(store))
    return [lot for many in range(len(store) + 1) for lot in itertools.combinations(writes, many)]


def moments_to_ask(looks, chooser, many=3):
    """Moments of the looks, between them, ahead of them and behind them."""
    told = {look.moment for look in looks if look.moment is not None}
    near = {moment + step for moment in told for step in (-1, 0, 1)} | {0}
    return chooser.sample(sorted(near), min(many, len(near)))


def lots_by(cuts, house):
    """All lots of a house, each ascending, among states."""
    return sorted({tuple(sorted(state[house])) for state in cuts})


class TestLots(LooksleftCase):

    def check_house(self, store, looks, house, moment, right):
        low = [write for write in range(len(store)) if all(write in lot for lot in right)]
        high = [write for write in range(len(store)) if any(write in lot for lot in right)]
        self.assertEqual((least(store, looks, house, moment), greatest(store, looks, house, moment)), (low, high))
        self.assertTrue(tuple(low) in right and tuple(high) in right)
        for lot in subsets(store):
            self.assertIs(can_have(store, looks, house, moment, list(lot)[::-1]), lot in right)
        for write in range(len(store)):
            expected = "come" if write in low else "open" if write in high else "missing"
            self.assertEqual(fate(store, looks, house, moment, write), expected)
        self.assertEqual(count_lots(store, looks, house, moment), len(right))
        self.assertEqual([lot_at(store, looks, house, moment, at) for at in range(len(right))], [list(lot) for lot in right])
        self.refuses_given(InvalidIndex, len(right), lot_at, store, looks, house, moment, len(right))

    def test_against_all_histories_and_all_their_places(self):
        chooser = random.Random(91)
        lost = 0
        for search, looks, _ in cases.fitting_looks(91, 400, 25):
            for moment in moments_to_ask(looks, chooser):
                cuts = search.cuts(looks, moment)
                for house in range(search.store.tree.houses):
                    lost += house not in {look.house for look in looks} and bool(looks)
                    self.check_house(search.store, looks, house, moment, lots_by(cuts, house))
        self.assertGreater(lost, 100)

    def test_moments_between_ahead_of_and_behind_those_of_looks(self):
        store = Store(line_tree(3), [0, 0, 2])
        looks = [Look(1, [[0]], moment=3), Look(1, [[0], [1]], moment=8)]
        expected = {2: ([], [0]), 3: ([0], [0]), 4: ([0], [0, 1]), 7: ([0], [0, 1]), 8: ([0, 1], [0, 1]), 9: ([0, 1], [0, 1, 2])}
        for moment, lots in expected.items():
            self.assertEqual((least(store, looks, 1, moment), greatest(store, looks, 1, moment)), lots, moment)
        self.assertEqual([least(store, looks, 0, moment) for moment in (2, 3, 8)], [[], [0], [0, 1]])
        self.assertEqual([greatest(store, looks, 2, moment) for moment in (3, 4, 8, 9)], [[0, 2], [0, 1, 2], [0, 1, 2], [0, 1, 2]])
        self.assertEqual([greatest(store, looks, 0, moment) for moment in (8, 9)], [[0, 1], [0, 1, 2]])

    def test_equal_moments(self):
        looks = [Look(1, [[0]], moment=5), Look(2, [[1]], moment=5), Look(3, [], moment=5)]
        self.assertEqual([least(STAR, looks, house, 5) for house in range(4)], [[], [0], [1], []])
        self.assertEqual([greatest(STAR, looks, house, 5) for house in range(4)], [[0, 1], [0], [1], []])
        self.assertEqual(least(STAR, looks, 1, 4), [])
        self.assertEqual(greatest(STAR, looks, 1, 6), [0, 1, 2])

    def test_looks_without_a_moment_tell_of_the_order_alone(self):
        looks = [Look(0, [[2], [1]])]
        self.assertEqual([least(STAR, looks, 0, 5), greatest(STAR, looks, 0, 5)], [[], [0, 1, 2]])
        self.assertEqual([can_have(STAR, looks, 0, 5, lot) for lot in ([1], [2], [2, 1], [0], [0, 2])], [False, True, True, False, False])
        self.assertEqual([lot_at(STAR, looks, 0, 5, at) for at in range(4)], [[], [0, 1, 2], [1, 2], [2]])

    def test_by_the_order_at_the_house_alone(self):
        # Write 0 did not come over house 0 to any look, but it is ahead of 2 there, which did.
        self.assertEqual(fate(STAR, LOOKS, 0, 5, 0), "come")
        # House 0 may have 0 by moment 4 as far as the looks at 2 and 3 tell, but 1, which is ahead of it, not.
        looks = [Look(0, [[1], [0], [2]]), Look(2, [], moment=4), Look(3, [], moment=4)]
        self.assertEqual([fate(STAR, looks, 0, 4, write) for write in range(3)], ["missing"] * 3)
        self.assertEqual([fate(STAR, looks[1:], 0, 4, write) for write in range(3)], ["open", "missing", "missing"])
        self.assertEqual([fate(STAR, looks, 1, 4, write) for write in range(3)], ["open", "missing", "missing"])
        self.assertEqual([fate(STAR, looks[:1], 0, 4, write) for write in range(3)], ["open"] * 3)

    def test_all_lots_of_twelve_writes_of_twelve_homes(self):
        right = sorted(subsets(WIDE))
        self.assertEqual((len(right), count_lots(WIDE, [], 5, 0)), (4096, 4096))
        for at in [0, 1, 2, 11, 12, 13, 2047, 2048, 4000, 4094, 4095]:
            self.assertEqual(lot_at(WIDE, [], 5, 0, at), list(right[at]))
        for index in (4096, 4097, -1, -4096, 10 ** 19):
            self.refuses_given(InvalidIndex, index, lot_at, WIDE, [], 5, 0, index)
        self.assertEqual([lot_at(WIDE, [], 5, 0, 0), lot_at(WIDE, [], 5, 0, 4095)], [[], [11]])
        self.assertEqual(count_lots(Store(star_tree(3), [1] * 12), [], 0, 0), 13)

    def test_no_writes_and_one_house(self):
        empty = Store(line_tree(2), [])
        looks = [Look(1, [], moment=4)]
        self.assertEqual([least(empty, looks, 0, 4), greatest(empty, looks, 0, 4), can_have(empty, looks, 0, 4, []),
                          count_lots(empty, looks, 0, 4), lot_at(empty, looks, 0, 4, 0)], [[], [], True, 1, []])
        home = Store(Tree(1, []), [0, 0, 0])
        looks = [Look(0, [[0]], moment=1), Look(0, [[0, 1]], moment=3)]
        self.assertEqual([(least(home, looks, 0, moment), greatest(home, looks, 0, moment)) for moment in range(5)],
                         [([], [0]), ([0], [0]), ([0], [0, 1]), ([0, 1], [0, 1]), ([0, 1], [0, 1, 2])])

    def test_far_moments(self):
        far = 10 ** 19
        looks = [Look(1, [[0]], moment=-far), Look(1, [[0, 2]], moment=far)]
        self.assertEqual([least(STAR, looks, 1, moment) for moment in (-far - 1, -far, far - 1, far)], [[], [0], [0], [0, 2]])


class TestErrors(LooksleftCase):

    def calls(self, store, looks, house, moment, last=None):
        """All functions of points 91 to 94, the last argument a lot, a write or an index."""
        return [(least, (store, looks, house, moment)), (greatest, (store, looks, house, moment)),
                (count_lots, (store, looks, house, moment)), (can_have, (store, looks, house, moment, last)),
                (fate, (store, looks, house, moment, last)), (lot_at, (store, looks, house, moment, last))]

    def test_looks_first(self):
        self.refuses_wrong_looks(lambda wrong: self.calls(STAR, wrong, -1, None))

    def test_looks_that_do_not_fit(self):
        lists = [*cases.unfit_looks(92, 50), (STAR, UNFIT)]
        self.refuses_unfit_looks(lists, lambda store, looks: self.calls(store, looks, -1, None))

    def test_houses_and_moments(self):
        for house in no_numbers() + [-1, 4]:
            for function, args in self.calls(STAR, LOOKS, house, None):
                self.refuses_given(InvalidHouse, house, function, *args)
        for moment in (None, True, False, "5", "", [], [5], (5,), {}, STAR):
            for function, args in self.calls(STAR, LOOKS, 0, moment):
                self.refuses_given(InvalidMoment, moment, function, *args)

    def test_lots_writes_and_indices(self):
        for lot in (None, True, False, 0, "", "0", {}, STAR, LOOKS[0], [0, 0], (1, 2, 1), [True], [0, False], [3], [-1], ["0"], [[0]], [None]):
            self.refuses_given(InvalidLot, lot, can_have, STAR, LOOKS, 0, 5, lot)
        for write in no_numbers() + [-1, 3]:
            self.refuses_given(InvalidWrite, write, fate, STAR, LOOKS, 0, 5, write)
        for index in no_numbers() + [-1, 4, 5]:
            self.refuses_given(InvalidIndex, index, lot_at, STAR, LOOKS, 0, 4, index)


class TestArguments(LooksleftCase):

    def test_by_position_and_by_name(self):
        names = ["store", "looks", "house", "moment"]
        self.assertEqual(self.same(least, names, [STAR, LOOKS, 0, 5]), [0, 2])
        self.assertEqual(self.same(greatest, names, [STAR, LOOKS, 2, 5]), [0, 1])
        self.assertIs(self.same(can_have, names + ["lot"], [STAR, LOOKS, 0, 4, [2, 0]]), True)
        self.assertEqual(self.same(fate, names + ["write"], [STAR, LOOKS, 0, 5, 0]), "come")
        self.assertEqual(self.same(count_lots, names, [STAR, LOOKS, 0, 4]), 4)
        self.assertEqual(self.same(lot_at, names + ["index"], [STAR, LOOKS, 0, 4, 2]), [0, 1, 2])

    def test_tuples_for_lists(self):
        looks = tuple(LOOKS)
        self.assertEqual([least(STAR, looks, 0, 5), greatest(STAR, looks, 2, 5)], [[0, 2], [0, 1]])
        self.assertEqual([can_have(STAR, looks, 0, 4, lot) for lot in ((), (0,), (0, 2), (2, 0), (2,))], [True, True, True, True, False])

    def test_answers_are_new_and_a_list_that_changes(self):
        looks = list(LOOKS)
        for function, more in ((least, (5,)), (greatest, (5,)), (lot_at, (4, 2))):
            told = function(STAR, looks, 0, *more)
            expected = list(told)
            told.append(9)
            self.assertEqual(function(STAR, looks, 0, *more), expected)
        looks.pop()
        self.assertEqual([least(STAR, looks, 0, 5), least(STAR, LOOKS, 0, 5)], [[2], [0, 2]])

    def test_equal_answers_for_equal_objects_behind_other_calls(self):
        lists = [(search.store, looks) for search, looks, _ in cases.fitting_looks(93, 100)]
        first = [self.answers(*told) for told in lists]
        for (store, looks), answer in reversed(list(zip(lists, first))):
            self.assertEqual(self.answers(*cases.equal_ones(store, looks)), answer)

    def answers(self, store, looks):
        return [(least(store, looks, house, moment), greatest(store, looks, house, moment), count_lots(store, looks, house, moment))
                for house in range(store.tree.houses) for moment in range(4)]


if __name__ == "__main__":
    unittest.main()
