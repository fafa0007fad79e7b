"""Points 111 and 112: whole pasts."""

import itertools
import random
import unittest

from looksleft.errors import InvalidMoment, InvalidPast
from looksleft.looks import Look
from looksleft.pasts import can_be_past, greatest_past, is_past, least_past, past_picture
from looksleft.pictures import is_picture, looks_fit
from looksleft.stores import Store
from looksleft.trees import Tree
from tests import brute, cases
from tests.test_come import lots_by, moments_to_ask
from tests.test_pictures import told_arrows, told_borders
from tests.tools import LooksleftCase, line_tree, odd_values, star_tree

STAR = Store(star_tree(4), [1, 2, 3])
PAIR = Store(line_tree(2), [0, 1])
LOOKS = [Look(0, [[0]], moment=5)]
UNFIT = [Look(0, [[0]], moment=1), Look(0, [], moment=2)]


def with_past(looks, moment, past):
    """The looks and, behind them, one look more of each house."""
    return list(looks) + [Look(house, [list(lot)] if lot else [], moment=moment) for house, lot in enumerate(past)]


def is_right_picture(store, looks, value):
    """Whether a tuple is a picture, by the words of the document; there may be any number of looks."""
    told = told_borders(looks)
    if value[0] == "own":
        _, border, a, b = value
        return a < b and store.homes[a] == store.homes[b] and b in told[border][1] and a not in told[border][1]
    if value[0] == "two":
        _, border, other, x, y = value
        (house, ahead), (other_house, other_ahead) = told[border], told[other]
        meet = set(brute.path(store, store.homes[x], house)) & set(brute.path(store, store.homes[y], other_house))
        return x in ahead - other_ahead and y in other_ahead - ahead and bool(meet)
    if value[0] == "three":
        _, house, three, writes = value
        leads = told_arrows(store, looks, house)
        return all((x, z) + border in leads for x, z, border in zip(writes, writes[1:] + writes[:1], three))
    _, i, j, write = value
    if looks[i].moment is None or looks[j].moment is None or looks[i].moment < looks[j].moment:
        return False
    lacks = write in brute.come(looks[j]) and write not in brute.come(looks[i])
    return lacks and looks[i].house in brute.path(store, store.homes[write], looks[j].house)


def bent_pasts(store, right, chooser):
    """Pasts with a write more or less, or put together from two pasts, or of any kind."""
    past = [set(lot) for lot in chooser.choice(right)]
    other = chooser.choice(right)
    house = chooser.randrange(len(past))
    yield [sorted(lot) for lot in past]
    yield [sorted(first) if chooser.random() < 0.5 else sorted(second) for first, second in zip(past, other)]
    if len(store):
        write = {chooser.randrange(len(store))}
        yield [sorted(lot ^ write) if at == house else sorted(lot) for at, lot in enumerate(past)]
    yield [chooser.sample(range(len(store)), chooser.randint(0, len(store))) for _ in past]


class TestLeastAndGreatest(LooksleftCase):

    def test_house_by_house_against_all_histories(self):
        chooser = random.Random(111)
        for search, looks, _ in cases.fitting_looks(111, 500, 30):
            for moment in moments_to_ask(looks, chooser):
                cuts = search.cuts(looks, moment)
                lots = [lots_by(cuts, house) for house in range(search.store.tree.houses)]
                low = [sorted(set(found[0]).intersection(*found)) for found in lots]
                high = [sorted(set().union(*found)) for found in lots]
                self.assertEqual(least_past(search.store, looks, moment), low)
                self.assertEqual(greatest_past(search.store, looks, moment), high)
                # They are there at one place of one history, too, in all houses at once.
                whole = [[sorted(book) for book in state] for state in cuts]
                self.assertTrue(low in whole and high in whole)
                self.assertIs(can_be_past(search.store, looks, moment, low), True)
                self.assertIs(can_be_past(search.store, looks, moment, high), True)

    def test_moments_that_no_look_has(self):
        self.assertEqual([least_past(PAIR, LOOKS, moment) for moment in (-3, 4, 5, 6)], [[[], []], [[], []], [[0], []], [[0], []]])
        self.assertEqual([greatest_past(PAIR, LOOKS, moment) for moment in (4, 5, 6)], [[[0], [0, 1]], [[0], [0, 1]], [[0, 1], [0, 1]]])
        self.assertEqual(least_past(Store(line_tree(3), []), [], 0), [[], [], []])
        self.assertEqual(greatest_past(Store(Tree(1, []), [0, 0]), [], 0), [[0, 1]])


class TestIsPast(LooksleftCase):

    def test_right_and_wrong_values(self):
        for value in ([[0], [1]], ([0], (1,)), [[], []], ((), ()), [[1, 0], [0, 1]], [(0, 1), []]):
            self.assertIs(is_past(PAIR, value), True, value)
        for value in ([[0], [0, 0]], [[0]], [[0], [1], []], [], [[True], []], [[0], [False]], [[2], []], [[-1], []], [[0], None], [0, 1],
                      ["0", "1"], {0: [0], 1: [1]}, {"0": [0]}, "01", None, [[[0]], []], [[0], {}], [["0"], []], PAIR, [PAIR, PAIR],
                      [[None], []], [Look(0, [[0]]), Look(1, [])]):
            self.assertIs(is_past(PAIR, value), False, value)

    def test_odd_values(self):
        right = [[[], []], ((), ()), [[0, 1], [1, 0]], [[0, 1], [1, 2]]]
        for value in odd_values():
            self.assertIs(is_past(PAIR, value), value in right[:3], value)
        self.assertIs(is_past(Store(Tree(1, []), []), [[]]), True)


class TestPasts(LooksleftCase):

    def test_pasts_that_can_be_and_others(self):
        chooser = random.Random(112)
        kinds = set()
        for search, looks, _ in cases.fitting_looks(112, 500, 40):
            for moment in moments_to_ask(looks, chooser, 2):
                right = sorted({tuple(tuple(sorted(book)) for book in state) for state in search.cuts(looks, moment)})
                for past in bent_pasts(search.store, right, chooser):
                    expected = tuple(tuple(sorted(lot)) for lot in past) in right
                    self.assertIs(can_be_past(search.store, looks, moment, past), expected)
                    self.check_picture(search.store, looks, moment, past, expected)
                    kinds.add(expected or past_picture(search.store, looks, moment, past)[0])
        self.assertLessEqual({True, "own", "two", "time"}, kinds)

    def check_picture(self, store, looks, moment, past, expected):
        shown = past_picture(store, looks, moment, past)
        self.assertIs(shown is None, expected)
        if expected:
            return
        further = with_past(looks, moment, past)
        self.assertTrue(is_right_picture(store, further, shown))
        if len(further) <= 9:
            self.assertIs(is_picture(store, further, shown), True)
            self.assertIs(looks_fit(store, further), False)

    def test_all_pasts_of_two_houses(self):
        search = brute.Search(PAIR)
        lots = [[], [0], [1], [0, 1]]
        for looks in (LOOKS, [], [Look(1, [[1]], moment=5), Look(0, [[0], [1]])]):
            for moment in (4, 5, 6):
                right = {tuple(tuple(sorted(book)) for book in state) for state in search.cuts(looks, moment)}
                for past in itertools.product(lots, repeat=2):
                    self.assertIs(can_be_past(PAIR, looks, moment, past), tuple(map(tuple, past)) in right)
                    self.check_picture(PAIR, looks, moment, past, tuple(map(tuple, past)) in right)

    def test_three_houses_that_make_a_ring_of_which_no_two_do(self):
        ring = [[0, 1, 2], [0, 1], [1, 2], [2, 0]]
        shown = past_picture(STAR, [], 5, ring)
        self.assertEqual((shown[:2], is_picture(STAR, with_past([], 5, ring), shown)), (("three", 0), True))
        self.assertIs(can_be_past(STAR, [], 5, ring), False)
        for house, lot in ((1, [0]), (2, [1]), (3, [2])):
            two = [lot if at == house else told for at, told in enumerate(ring)]
            self.assertIs(can_be_past(STAR, [], 5, two), True)
        looks = [Look(0, [[0, 1, 2]], moment=3)] * 7
        shown = past_picture(STAR, looks, 5, ring)
        self.assertTrue(is_right_picture(STAR, with_past(looks, 5, ring), shown))
        self.assertEqual({border[0] for border in shown[2]}, {8, 9, 10})

    def test_more_than_nine_looks_in_all(self):
        looks = [Look(1, [], moment=0), Look(1, [[0]], moment=1), Look(1, [[0], [2]], moment=5), Look(2, [[1]], moment=5), Look(3, [[2]]),
                 Look(2, [[1], [0]], moment=6), Look(3, [], moment=0), Look(0, []), Look(2, [[1, 0]])]
        search = brute.Search(STAR)
        chooser = random.Random(113)
        for moment in (0, 3, 5, 6, 9):
            right = sorted({tuple(tuple(sorted(book)) for book in state) for state in search.cuts(looks, moment)})
            for _ in range(20):
                for past in bent_pasts(STAR, right, chooser):
                    self.check_picture(STAR, looks, moment, past, tuple(tuple(sorted(lot)) for lot in past) in right)
            self.assertIs(can_be_past(STAR, looks, moment, least_past(STAR, looks, moment)), True)

    def test_the_looks_behind_those_told(self):
        self.assertEqual(past_picture(PAIR, LOOKS, 6, [[], []]), ("time", 1, 0, 0))
        self.assertEqual(past_picture(PAIR, LOOKS, 6, ((), (0,)))[0], "time")
        self.assertIsNone(past_picture(PAIR, LOOKS, 6, [[0], []]))
        self.assertEqual(past_picture(Store(line_tree(2), [1, 1]), [], 0, [[], [1]]), ("own", (1, 0), 0, 1))


class TestErrors(LooksleftCase):

    def calls(self, store, looks, moment, past=None):
        return [(least_past, (store, looks, moment)), (greatest_past, (store, looks, moment)),
                (can_be_past, (store, looks, moment, past)), (past_picture, (store, looks, moment, past))]

    def test_looks_first(self):
        self.refuses_wrong_looks(lambda wrong: self.calls(PAIR, wrong, None))

    def test_looks_that_do_not_fit(self):
        lists = [*cases.unfit_looks(114, 50), (PAIR, UNFIT)]
        self.refuses_unfit_looks(lists, lambda store, looks: self.calls(store, looks, None))

    def test_moments_ahead_of_pasts(self):
        for moment in (None, True, False, "5", "", [], [5], (5,), {}, PAIR):
            for function, args in self.calls(PAIR, LOOKS, moment):
                self.refuses_given(InvalidMoment, moment, function, *args)

    def test_pasts(self):
        for past in (None, [], [[0]], [[0], [1], []], [[0, 0], []], [[True], []], [[2], []], [[-1], []], [[0], None], {}, "", 5, PAIR):
            for function, args in self.calls(PAIR, LOOKS, 5, past)[2:]:
                self.refuses_given(InvalidPast, past, function, *args)


class TestArguments(LooksleftCase):

    def test_by_position_and_by_name(self):
        names = ["store", "looks", "moment"]
        self.assertEqual(self.same(least_past, names, [PAIR, LOOKS, 5]), [[0], []])
        self.assertEqual(self.same(greatest_past, names, [PAIR, LOOKS, 5]), [[0], [0, 1]])
        self.assertIs(self.same(is_past, ["store", "value"], [PAIR, [[0], []]]), True)
        self.assertIs(self.same(can_be_past, names + ["past"], [PAIR, LOOKS, 5, [[0], [1]]]), True)
        self.assertEqual(self.same(past_picture, names + ["past"], [PAIR, LOOKS, 6, [[], []]]), ("time", 1, 0, 0))

    def test_answers_are_new_and_a_list_that_changes(self):
        looks = list(LOOKS)
        for function in (least_past, greatest_past):
            told = function(PAIR, looks, 5)
            expected = function(PAIR, tuple(LOOKS), 5)
            for lot in told:
                lot.append(9)
            self.assertEqual(function(PAIR, looks, 5), expected)
        self.assertEqual(greatest_past(PAIR, looks, 9), [[0, 1], [0, 1]])
        looks.append(Look(1, [[1]], moment=5))
        self.assertEqual(least_past(PAIR, looks, 5), [[0], [1]])
        past = [[0], [1]]
        self.assertIs(can_be_past(PAIR, looks, 5, past), True)
        past[1].append(0)
        self.assertIs(can_be_past(PAIR, looks, 5, past), False)

    def test_equal_answers_for_equal_objects_behind_other_calls(self):
        chooser = random.Random(115)
        lists = []
        for search, looks, _ in cases.fitting_looks(115, 150):
            past = [chooser.sample(range(len(search.store)), chooser.randint(0, len(search.store))) for _ in range(len(search.store.tree))]
            lists.append((search.store, looks, 2, past))
        first = [past_picture(*told) for told in lists]
        for (store, looks, moment, past), answer in reversed(list(zip(lists, first))):
            store, looks = cases.equal_ones(store, looks)
            self.assertEqual(past_picture(store, looks, moment, tuple(map(tuple, past))), answer)


if __name__ == "__main__":
    unittest.main()
