"""Points 121 and 122: which looks are sooner than others, and pairs of looks of which one is not later than the other."""

import itertools
import random
import unittest

from looksleft.clocks import clock_history, clock_ring, is_clock_ring, is_pairs, sooner_by, sooner_pairs
from looksleft.errors import DoNotFit, InvalidIndex, InvalidLooks, InvalidPairs, NoClock, NotSooner
from looksleft.looks import Look
from looksleft.pictures import is_picture
from looksleft.stores import Store
from looksleft.trees import Tree
from tests import brute, cases
from tests.tools import LooksleftCase, line_tree, no_numbers, odd_values, star_tree

STAR = Store(star_tree(4), [1, 2])
LOOKS = [Look(3, [[1]]), Look(1, []), Look(1, [[0]])]
PAIR = Store(line_tree(2), [0])
LINE = Store(line_tree(2), [0, 0, 0, 1])
# Look 0 is sooner than look 1, this one than look 2, and so on.
FOUR = [Look(0, []), Look(0, [[0]]), Look(0, [[0, 1]]), Look(0, [[0, 1, 2]])]
UNFIT = [Look(0, [[1]]), Look(0, [])]


def told_sooner(store, looks, i, j):
    """All writes that make look i sooner than look j, by the words of the document."""
    return [write for write in sorted(brute.come(looks[j]) - brute.come(looks[i]))
            if looks[i].house in brute.path(store, store.homes[write], looks[j].house)]


def all_sooner(store, looks):
    return [(i, j) for i, j in itertools.product(range(len(looks)), repeat=2) if told_sooner(store, looks, i, j)]


def is_right_ring(store, looks, pairs, ring):
    """Whether a list of indices is a ring, by the words of the document."""
    if len(ring) < 2 or len(set(ring)) < len(ring):
        return False
    steps = list(zip(ring, [*ring[1:], ring[0]]))
    sooner = all_sooner(store, looks)
    return all(step in pairs or step in sooner for step in steps) and any(step in sooner for step in steps)


def some_pairs(chooser, many, at_most=4):
    """Pairs of so many looks."""
    tuples = list(itertools.permutations(range(many), 2))
    return sorted(chooser.sample(tuples, chooser.randint(0, min(at_most, len(tuples)))))


def clock_cases(seed, many, greater=0):
    """Tuples (search, looks, chooser) with looks that fit without their moments."""
    chooser = random.Random(seed)
    lists = list(cases.some_looks(seed, many))
    lists += [(search, looks[:4]) for search, looks, _ in cases.fitting_looks(seed, 0, greater)]
    for search, looks in lists:
        looks = looks[:5]
        if looks and chooser.random() < 0.15:
            looks.append(looks[0])
        if search.ends(looks, minded=False):
            yield search, looks, chooser


def keeps_clock(store, looks, pairs, told):
    """Whether books, a script and places keep the words of the document, seen deed by deed."""
    books, script, places = told
    states = brute.states_of(store, script)
    if states is None or brute.deeds(store, states[-1]) or list(map(list, books)) != list(map(list, states[-1])):
        return False
    if not all(brute.may_begin(look, states[-1][look.house]) for look in looks) or len(places) != len(looks):
        return False
    if not all(type(place) is int and 0 <= place < len(states) for place in places):
        return False
    come = all(set(states[place][look.house]) == brute.come(look) for look, place in zip(looks, places))
    return come and all(places[i] <= places[j] for i, j in pairs)


class TestSooner(LooksleftCase):

    def test_by_words(self):
        kinds = set()
        for search, looks, _ in clock_cases(121, 500, 30):
            store = search.store
            self.assertEqual(sooner_pairs(store, looks), all_sooner(store, looks))
            for i, j in itertools.product(range(len(looks)), repeat=2):
                writes = told_sooner(store, looks, i, j)
                kinds.add((len(writes), looks[i].house == looks[j].house))
                if writes:
                    self.assertEqual(sooner_by(store, looks, i, j), writes[0])
                else:
                    self.refuses(NotSooner, {"i": i, "j": j}, sooner_by, store, looks, i, j)
        self.assertLessEqual({(many, same) for many in (0, 1, 2) for same in (True, False)}, kinds)

    def test_sooner_looks_have_lesser_places_in_each_history(self):
        for search, looks, _ in clock_cases(122, 100, 5):
            told = sooner_pairs(search.store, looks)
            for i, j in itertools.permutations(range(len(looks)), 2):
                two = [looks[i], looks[j]]
                # Look j can be no later than look i just if look i is not sooner.
                self.assertIs(bool(search.clock_cuts(two, [(1, 0)])), (i, j) not in told)

    def test_one_look_object_at_two_indices(self):
        look = Look(1, [[0]])
        looks = [look, Look(1, []), look]
        self.assertEqual(sooner_pairs(STAR, looks), [(1, 0), (1, 2)])
        self.refuses(NotSooner, {"i": 0, "j": 2}, sooner_by, STAR, looks, 0, 2)
        self.refuses(NotSooner, {"i": 0, "j": 0}, sooner_by, STAR, looks, 0, 0)
        self.assertEqual(sooner_by(STAR, looks, 1, 2), 0)

    def test_the_least_write(self):
        self.assertEqual([sooner_by(LINE, FOUR, 0, 3), sooner_by(LINE, FOUR, 1, 3), sooner_by(LINE, FOUR, 2, 3)], [0, 1, 2])
        looks = [Look(0, [[0]]), Look(1, [[3, 1, 0]])]
        self.assertEqual((sooner_pairs(LINE, looks), sooner_by(LINE, looks, 0, 1)), ([(0, 1)], 1))

    def test_moments_mean_nothing(self):
        looks = [Look(1, [], moment=7), Look(1, [[0]], moment=3), Look(3, [[1]], moment=7)]
        self.assertEqual(sooner_pairs(STAR, looks), [(0, 1)])
        self.assertEqual(sooner_by(STAR, looks, 0, 1), 0)
        self.assertEqual((sooner_pairs(STAR, []), sooner_pairs(STAR, [looks[0]])), ([], []))


class TestIsPairs(LooksleftCase):

    def test_right_and_wrong_values(self):
        for value in ([], (), [(0, 1)], ((0, 1),), [(0, 1), (1, 0)], [(0, 1), (0, 2), (1, 0), (2, 0), (2, 1)]):
            self.assertIs(is_pairs(STAR, LOOKS, value), True, value)
        for value in ([(1, 0), (0, 1)], [(0, 1), (0, 1)], [(0, 2), (0, 1)], [(0, 0)], [(0, 3)], [(3, 0)], [(-1, 0)], [(0, -1)], [[0, 1]],
                      [(0, 1), [1, 0]], [(0,)], [(0, 1, 2)], [0, 1], (0, 1), [(True, 0)], [(0, True)], [(False, 1)], [("0", 1)], [(0, None)],
                      None, "01", {}, {"a": 1}, {(0, 1): 1}, 5, True, LOOKS, [None], [()], [LOOKS[0]], [(LOOKS[0], LOOKS[1])], STAR):
            self.assertIs(is_pairs(STAR, LOOKS, value), False, value)

    def test_odd_values(self):
        for value in odd_values():
            self.assertIs(is_pairs(STAR, LOOKS, value), value in ([], (), [(0, 1), (1, 2)]), value)
            self.assertIs(is_pairs(STAR, [], value), value in ([], ()), value)

    def test_one_look_at_both_indices(self):
        self.assertIs(is_pairs(STAR, [LOOKS[0]] * 9, list(itertools.combinations(range(9), 2))), True)
        self.assertIs(is_pairs(STAR, [LOOKS[0]] * 9, list(itertools.permutations(range(9), 2))), True)
        self.assertIs(is_pairs(STAR, [LOOKS[0]] * 9, [(0, 9)]), False)

    def test_looks_alone_are_refused(self):
        self.refuses_wrong_looks(lambda wrong: [(is_pairs, (STAR, wrong, []))])
        self.assertIs(is_pairs(STAR, [Look(0, [[1]]), Look(1, [[0]]), Look(0, [[0]])], [(0, 1)]), True)
        for store, looks in cases.unfit_looks(123, 60):
            self.assertIs(is_pairs(store, looks, []), True)
            self.assertIs(is_pairs(store, looks, [(0, len(looks))]), False)


class TestRings(LooksleftCase):

    def test_a_ring_just_if_there_are_no_places(self):
        kinds = []
        for search, looks, chooser in clock_cases(124, 450, 25):
            for _ in range(2):
                pairs = some_pairs(chooser, len(looks))
                can_be = bool(search.clock_cuts(looks, pairs))
                ring = clock_ring(search.store, looks, pairs)
                self.assertIs(ring is None, can_be)
                kinds.append(can_be if ring is None else len(ring))
                if can_be:
                    told = clock_history(search.store, looks, pairs)
                    self.assertEqual((type(told), [type(part) for part in told]), (tuple, [list] * 3))
                    self.assertTrue(keeps_clock(search.store, looks, pairs, told))
                    continue
                self.assertEqual(type(ring), list)
                self.assertTrue(is_right_ring(search.store, looks, pairs, ring))
                self.assertIs(is_clock_ring(search.store, looks, pairs, ring), True)
                with self.assertRaises(NoClock) as caught:
                    clock_history(search.store, looks, tuple(pairs))
                self.assertEqual(list(vars(caught.exception)), ["ring"])
                self.assertTrue(is_right_ring(search.store, looks, pairs, caught.exception.ring))
        self.assertGreater(min(kinds.count(True), kinds.count(2), kinds.count(3)), 10)

    def test_all_lists_of_indices(self):
        seen = []
        for search, looks, chooser in clock_cases(125, 150, 10):
            looks = looks[:4]
            pairs = some_pairs(chooser, len(looks), 6)
            for many in range(len(looks) + 1):
                for value in itertools.permutations(range(len(looks)), many):
                    seen.append(is_right_ring(search.store, looks, pairs, value))
                    self.assertIs(is_clock_ring(search.store, looks, pairs, list(value)), seen[-1])
                    self.assertIs(is_clock_ring(search.store, looks, tuple(pairs), value), seen[-1])
        self.assertGreater(min(seen.count(True), seen.count(False)), 100)

    def test_rings_turned_round_and_bent(self):
        pairs = [(3, 0)]
        for ring in ([0, 1, 2, 3], [0, 3], [0, 1, 3], [0, 2, 3]):
            for turn in range(len(ring)):
                self.assertIs(is_clock_ring(LINE, FOUR, pairs, ring[turn:] + ring[:turn]), True)
                self.assertIs(is_clock_ring(LINE, FOUR, pairs, tuple(ring[turn:] + ring[:turn])), True)
        for ring in ([0, 1, 0, 3], [0, 1, 2, 3, 0], [3, 2, 1, 0], [1, 2, 3], [0, 1], [0], [], [3], [0, 0], [0, 1, 1, 3], [0, 2, 1, 3],
                     [0, 4], [-4, -1], [0, -1], [False, 3], [0, True, 3], ["0", 3], [None, 3], None, (0, 1), {0: 0, 3: 3}, "03", 3):
            self.assertIs(is_clock_ring(LINE, FOUR, pairs, ring), False, ring)
        for value in odd_values():
            self.assertIs(is_clock_ring(LINE, FOUR, [], value), False, value)

    def test_pairs_alone_are_no_ring(self):
        looks = [Look(3, [[1]]), Look(1, []), Look(2, [[1]])]
        self.assertEqual(sooner_pairs(STAR, looks), [])
        pairs = list(itertools.permutations(range(3), 2))
        self.assertIsNone(clock_ring(STAR, looks, pairs))
        for ring in ([0, 1], [0, 1, 2], [2, 1, 0], (1, 2)):
            self.assertIs(is_clock_ring(STAR, looks, pairs, ring), False)
        self.assertEqual(len(set(clock_history(STAR, looks, pairs)[2])), 1)

    def test_a_step_that_is_told_and_sooner_counts_as_sooner(self):
        looks = FOUR[:2]
        self.assertIs(is_clock_ring(LINE, looks, [(0, 1), (1, 0)], [1, 0]), True)
        self.assertTrue(is_right_ring(LINE, looks, [(0, 1), (1, 0)], clock_ring(LINE, looks, [(0, 1), (1, 0)])))
        self.assertIsNone(clock_ring(LINE, looks, [(0, 1)]))

    def test_sooner_looks_alone_are_no_ring_where_looks_fit(self):
        for search, looks, _ in clock_cases(126, 200, 10):
            self.assertIsNone(clock_ring(search.store, looks, []))
            sooner = sooner_pairs(search.store, looks)
            self.assertTrue(all((j, i) not in sooner for i, j in sooner))

    def test_a_ring_over_two_sooner_steps(self):
        # Write 0 goes from look 1 to look 0, write 1 from look 3 to look 2; the pairs join them crosswise.
        looks = [Look(1, [[0]]), Look(1, []), Look(2, [[1]]), Look(2, [])]
        self.assertEqual(sooner_pairs(STAR, looks), [(1, 0), (3, 2)])
        pairs = [(0, 3), (2, 1)]
        self.assertIsNone(clock_ring(STAR, looks, pairs[:1]))
        self.assertIsNone(clock_ring(STAR, looks, pairs[1:]))
        self.assertTrue(is_right_ring(STAR, looks, pairs, clock_ring(STAR, looks, pairs)))
        for ring in ([1, 0, 3, 2], [0, 3, 2, 1], (3, 2, 1, 0)):
            self.assertIs(is_clock_ring(STAR, looks, pairs, ring), True)
        for ring in ([0, 1, 2, 3], [1, 0], [0, 3], [1, 0, 2, 3], [1, 0, 3]):
            self.assertIs(is_clock_ring(STAR, looks, pairs, ring), False)


class TestClockHistory(LooksleftCase):

    def test_looks_whose_moments_mean_nothing(self):
        looks = [Look(0, [[0]], moment=1), Look(0, [], moment=2), Look(1, [], moment=1)]
        told = clock_history(PAIR, looks, [(0, 2)])
        self.assertTrue(keeps_clock(PAIR, looks, [(0, 2)], told))
        self.assertEqual(told[2], [1, 0, 1])
        bare = [Look(look.house, look.lots) for look in looks]
        self.assertEqual(clock_history(PAIR, bare, [(0, 2)]), told)

    def test_a_place_for_each_look(self):
        self.assertEqual(clock_history(PAIR, [], []), ([[0], [0]], [("make", 0), ("hand", 0, 1)], []))
        self.assertEqual(clock_history(PAIR, [Look(0, [])] * 9, [])[2], [0] * 9)
        self.assertEqual(clock_history(Store(Tree(1, []), []), [Look(0, [])], []), ([[]], [], [0]))
        told = clock_history(LINE, FOUR, [(0, 1), (2, 3)])
        self.assertTrue(keeps_clock(LINE, FOUR, [(0, 1), (2, 3)], told))
        self.assertEqual(sorted(set(told[2])), told[2])

    def test_nine_looks(self):
        looks = [Look(1, []), Look(1, [[0]]), Look(2, []), Look(2, [[1]]), Look(3, []), Look(3, [[0]]), Look(0, [[0]]), Look(0, [[0], [1]]),
                 Look(3, [[0], [1]])]
        chooser = random.Random(127)
        search = brute.Search(STAR)
        seen = []
        for _ in range(120):
            pairs = some_pairs(chooser, 9, 3)
            seen.append(bool(search.clock_cuts(looks, pairs)))
            self.assertIs(clock_ring(STAR, looks, pairs) is None, seen[-1])
            if seen[-1]:
                self.assertTrue(keeps_clock(STAR, looks, pairs, clock_history(STAR, looks, pairs)))
            else:
                self.assertTrue(is_right_ring(STAR, looks, pairs, clock_ring(STAR, looks, pairs)))
        self.assertGreater(min(seen.count(True), seen.count(False)), 10)


class TestErrors(LooksleftCase):

    def calls(self, store, looks, pairs=None):
        return [(sooner_pairs, (store, looks)), (sooner_by, (store, looks, None, None)), (clock_ring, (store, looks, pairs)),
                (is_clock_ring, (store, looks, pairs, None)), (clock_history, (store, looks, pairs))]

    def test_looks_first(self):
        self.refuses_wrong_looks(lambda wrong: self.calls(STAR, wrong))

    def test_looks_that_do_not_fit_without_their_moments(self):
        many = 0
        for search, looks in cases.some_looks(128, 400):
            bare = [Look(look.house, look.lots) for look in looks]
            if search.ends(bare):
                self.assertEqual(sooner_pairs(search.store, looks), all_sooner(search.store, looks))
                continue
            many += 1
            for function, args in self.calls(search.store, looks):
                with self.assertRaises(DoNotFit) as caught:
                    function(*args)
                self.assertEqual(list(vars(caught.exception)), ["picture"])
                self.assertNotEqual(caught.exception.picture[0], "time")
                self.assertIs(is_picture(search.store, bare, caught.exception.picture), True)
        self.assertGreater(many, 50)

    def test_a_picture_of_the_moments_does_not_count(self):
        looks = [Look(0, [[0]], moment=1), Look(0, [], moment=2)]
        self.assertEqual(sooner_pairs(PAIR, looks), [(1, 0)])
        self.assertEqual(clock_ring(PAIR, looks, [(0, 1)]), [1, 0])
        unfit = [Look(0, [[1]], moment=1), Look(0, [[0]], moment=1)]
        with self.assertRaises(DoNotFit) as caught:
            sooner_pairs(LINE, unfit)
        self.assertEqual(caught.exception.picture[0], "own")

    def test_indices(self):
        for index in no_numbers() + [-1, 3, 4]:
            self.refuses_given(InvalidIndex, index, sooner_by, STAR, LOOKS, index, [index])
            self.refuses_given(InvalidIndex, index, sooner_by, STAR, LOOKS, 2, index)
        self.refuses_given(InvalidIndex, 0, sooner_by, STAR, [], 0, 0)
        self.refuses(NotSooner, {"i": 2, "j": 1}, sooner_by, STAR, LOOKS, 2, 1)

    def test_pairs_and_then_a_ring(self):
        for pairs in (None, {}, "", 0, [(1, 0), (0, 1)], [(2, 1), (2, 1)], [(0, 0)], [(0, 3)], [[2, 1]], [(True, 0)], [(-1, 0)], (2, 1)):
            for function, args in self.calls(STAR, LOOKS, pairs)[2:]:
                self.refuses_given(InvalidPairs, pairs, function, *args)
        wrong = [Look(9, [])]
        self.refuses_given(InvalidLooks, wrong, clock_history, STAR, wrong, [(2, 1)])
        self.assertRaises(DoNotFit, clock_history, LINE, UNFIT, [(5, 5)])
        with self.assertRaises(NoClock) as caught:
            clock_history(STAR, LOOKS, [(2, 1)])
        self.assertIn(caught.exception.ring, ([1, 2], [2, 1]))


class TestArguments(LooksleftCase):

    def test_by_position_and_by_name(self):
        names = ["store", "looks"]
        self.assertEqual(self.same(sooner_pairs, names, [STAR, LOOKS]), [(1, 2)])
        self.assertEqual(self.same(sooner_by, names + ["i", "j"], [STAR, LOOKS, 1, 2]), 0)
        self.assertIs(self.same(is_pairs, names + ["value"], [STAR, LOOKS, [(0, 1)]]), True)
        ring = self.same(clock_ring, names + ["pairs"], [STAR, LOOKS, [(2, 1)]])
        self.assertIs(self.same(is_clock_ring, names + ["pairs", "value"], [STAR, LOOKS, [(2, 1)], ring]), True)
        told = self.same(clock_history, names + ["pairs"], [STAR, LOOKS, [(0, 1), (1, 0)]])
        self.assertTrue(keeps_clock(STAR, LOOKS, [(0, 1), (1, 0)], told))

    def test_answers_are_new_and_lists_that_change(self):
        looks, pairs = list(LOOKS), [(2, 1)]
        ring = clock_ring(STAR, looks, pairs)
        expected = list(ring)
        ring.clear()
        sooner_pairs(STAR, looks).clear()
        self.assertEqual((clock_ring(STAR, looks, pairs), sooner_pairs(STAR, looks)), (expected, [(1, 2)]))
        for _ in range(2):
            with self.assertRaises(NoClock) as caught:
                clock_history(STAR, looks, pairs)
            self.assertEqual(caught.exception.ring, expected)
            caught.exception.ring.clear()
        pairs.clear()
        told = clock_history(STAR, looks, pairs)
        for part in told[0] + list(told):
            part.clear()
        self.assertTrue(keeps_clock(STAR, looks, pairs, clock_history(STAR, looks, pairs)))
        looks.pop()
        self.assertEqual(sooner_pairs(STAR, looks), [])

    def test_equal_answers_for_equal_objects_behind_other_calls(self):
        lists = [(search.store, looks, some_pairs(chooser, len(looks))) for search, looks, chooser in clock_cases(129, 150)]
        first = [self.answer(*told) for told in lists]
        for (store, looks, pairs), answer in reversed(list(zip(lists, first))):
            self.assertEqual(self.answer(*cases.equal_ones(store, looks), tuple(pairs)), answer)

    def answer(self, store, looks, pairs):
        try:
            return clock_history(store, looks, pairs), clock_ring(store, looks, pairs)
        except NoClock as error:
            return error.ring, clock_ring(store, looks, pairs)


if __name__ == "__main__":
    unittest.main()
