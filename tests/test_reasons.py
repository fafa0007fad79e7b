"""Points 93 and 95: why a write had come or not, and histories in which a lot has come."""

import itertools
import random
import unittest

from looksleft.come import fate
from looksleft.errors import CannotHave, InvalidHouse, InvalidLot, InvalidMoment, InvalidWrite, Open
from looksleft.histories import is_history
from looksleft.looks import Look
from looksleft.reasons import have_history, is_why_come, is_why_missing, why_come, why_missing
from looksleft.stores import Store
from tests import brute, cases
from tests.test_ahead import told_papers
from tests.test_come import lots_by, moments_to_ask, subsets
from tests.test_histories import keeps_all
from tests.tools import LooksleftCase, line_tree, no_numbers, odd_values, star_tree

STAR = Store(star_tree(4), [1, 2, 3])
LOOKS = [Look(1, [[0, 2]], moment=5), Look(2, [[0, 1]], moment=6)]
UNFIT = [Look(0, [[0]], moment=1), Look(0, [], moment=2)]


def told_come(store, looks, house, moment, write):
    """All tuples that show why a write had come, by the words of the document."""
    found = set()
    for at, look in enumerate(looks):
        if look.moment is not None and look.moment <= moment:
            for other in brute.come(look):
                if house in brute.path(store, store.homes[other], look.house):
                    papers = {None} if other == write else told_papers(store, looks, house, write, other)
                    found |= {(at, other, paper) for paper in papers}
    return found


def told_missing(store, looks, house, moment, write):
    """All tuples that show why a write had not come, by the words of the document."""
    found = set()
    for at, look in enumerate(looks):
        if look.moment is not None and look.moment >= moment:
            for other in set(range(len(store))) - brute.come(look):
                if look.house in brute.path(store, store.homes[other], house):
                    papers = {None} if other == write else told_papers(store, looks, house, other, write)
                    found |= {(at, other, paper) for paper in papers}
    return found


class TestReasons(LooksleftCase):

    def test_for_each_write_that_has_come_and_each_that_is_missing(self):
        chooser = random.Random(94)
        kinds = set()
        for search, looks, _ in cases.fitting_looks(94, 300, 20):
            store = search.store
            for moment in moments_to_ask(looks, chooser):
                cuts = search.cuts(looks, moment)
                for house in range(store.tree.houses):
                    right = lots_by(cuts, house)
                    for write in range(len(store)):
                        come, missing = all(write in lot for lot in right), all(write not in lot for lot in right)
                        kinds |= self.check_one(come, why_come, is_why_come, told_come, (store, looks, house, moment, write))
                        kinds |= self.check_one(missing, why_missing, is_why_missing, told_missing, (store, looks, house, moment, write))
        self.assertLessEqual({"come None", "come one", "missing None", "missing own", "missing one"}, kinds)

    def check_one(self, told, why, is_why, told_why, args):
        """The reason for one write, which there is exactly if its fate is told; returns its kind."""
        right = told_why(*args)
        self.assertIs(bool(right), told)
        if not told:
            self.refuses(Open, {"write": args[-1]}, why, *args)
            return set()
        reason = why(*args)
        self.assertIn(reason, right)
        self.assertIs(is_why(*args, reason), True)
        self.assertIs(reason[2] is None, reason[1] == args[-1])
        return {f"{why.__name__[4:]} {reason[2] and reason[2][0]}"}

    def test_right_and_bent_reasons(self):
        chooser = random.Random(95)
        many = {is_why_come: [], is_why_missing: []}
        for search, looks, _ in cases.fitting_looks(95, 350, 30):
            store = search.store
            if not len(store):
                continue
            house, write = chooser.randrange(store.tree.houses), chooser.randrange(len(store))
            moment = moments_to_ask(looks, chooser, 1)[0]
            papers = {paper for other in range(len(store)) for paper in
                      told_papers(store, looks, house, write, other) | told_papers(store, looks, house, other, write)}
            papers = [None, ("own",)] + sorted(papers - {("own",)}, key=repr)[:8]
            for is_why, told_why in ((is_why_come, told_come), (is_why_missing, told_missing)):
                right = told_why(store, looks, house, moment, write)
                for value in itertools.product(range(-1, len(looks) + 1), range(-1, len(store) + 1), papers):
                    self.assertIs(is_why(store, looks, house, moment, write, value), value in right, value)
                for value in chooser.sample(sorted(right, key=repr), min(20, len(right))):
                    self.assertIs(is_why(store, looks, house, moment, write, value), True)
                    many[is_why].append(value[2] and value[2][0])
        for found in many.values():
            self.assertGreater(len(found), 40)
            self.assertLessEqual({None, "own", "one"}, set(found))

    def test_papers_of_two_arrows(self):
        looks = [Look(3, [[0, 2]]), Look(1, [[0, 1], [2]], moment=5)]
        paper = ("two", 0, (0, 0), 1, (1, 0))
        self.assertIn((1, 2, paper), told_come(STAR, looks, 0, 5, 0))
        self.assertIs(is_why_come(STAR, looks, 0, 5, 0, (1, 2, paper)), True)
        self.assertIs(is_why_come(STAR, looks, 0, 5, 0, (1, 2, ("two", 0, (1, 0), 1, (0, 0)))), False)
        looks = [Look(3, [[0, 2]]), Look(1, [[0, 1]]), Look(1, [], moment=5)]
        paper = ("two", 0, (0, 0), 1, (1, 0))
        self.assertIn((2, 0, paper), told_missing(STAR, looks, 0, 5, 2))
        self.assertIs(is_why_missing(STAR, looks, 0, 5, 2, (2, 0, paper)), True)
        self.assertIs(is_why_missing(STAR, looks, 0, 6, 2, (2, 0, paper)), False)

    def test_values_that_are_no_reasons(self):
        right = (0, 2, ("one", 0, (1, 0)))
        self.assertIs(is_why_come(STAR, LOOKS, 0, 5, 0, right), True)
        bent = [list(right), right[:2], right + (None,), (False,) + right[1:], (1,) + right[1:], (-2,) + right[1:], (2,) + right[1:],
                (None,) + right[1:], (0, 2, None), (0, 2, ("own",)), (0, 2, list(right[2])), (0, 2, ("one", False, (1, 0))),
                (0, 2, ("one", 0, (True, 0))), (0, 2, ("one", 0, (1, False))), (0, 2, ("one", 0, [1, 0])), (0, 0, None),
                (0, True, right[2]), (0, 1, right[2]), (0, 3, right[2]), (0, -1, right[2]), (0, None, right[2]), ((0,), 2, right[2]),
                (0, "2", right[2]), (0, 2, ("one", 3, (1, 0))), (0, 2, ("one", 0, (0, 0))), (0, 2, True), (0, 2, ())]
        for value in bent + odd_values():
            self.assertIs(is_why_come(STAR, LOOKS, 0, 5, 0, value), False, value)
        for value in bent + odd_values() + [right]:
            self.assertIs(is_why_come(STAR, LOOKS, 0, 4, 0, value), False, value)
            self.assertIs(is_why_missing(STAR, LOOKS, 0, 5, 0, value), False, value)
        looks = [Look(0, [[1], [0], [2]]), Look(2, [], moment=4), Look(3, [], moment=4)]
        right = (1, 1, ("one", 0, (0, 0)))
        self.assertIs(is_why_missing(STAR, looks, 0, 4, 0, right), True)
        self.assertIs(is_why_missing(STAR, looks, 0, 4, 1, (1, 1, None)), True)
        for value in ((True,) + right[1:], (1, True, right[2]), (1, 1, None), (2, 1, right[2]), (0, 1, right[2]), list(right), (1, 0, None),
                      (1, 1, ("one", 0, (0, 1))), (1, 1, ("one", 0, (False, 0))), (1, 1, list(right[2])), (2, 0, None), (2, 2, right[2])):
            self.assertIs(is_why_missing(STAR, looks, 0, 4, 0, value), False, value)
            self.assertIs(is_why_come(STAR, looks, 0, 4, 0, value), False, value)
        for value in odd_values():
            self.assertIs(is_why_missing(STAR, looks, 0, 4, 0, value), False, value)
        self.assertIs(is_why_missing(STAR, looks, 0, 4, 1, (1, 1, False)), False)

    def test_the_none_stands_where_the_write_is_the_same(self):
        looks = [Look(0, [[0, 1]], moment=3), Look(0, [[0, 1]], moment=4)]
        store = Store(line_tree(2), [0, 0, 0])
        self.assertIs(is_why_come(store, looks, 0, 4, 0, (1, 0, None)), True)
        self.assertIs(is_why_come(store, looks, 0, 4, 0, (1, 1, ("own",))), True)
        self.assertIs(is_why_come(store, looks, 0, 4, 0, (0, 1, ("own",))), True)
        self.assertIs(is_why_come(store, looks, 0, 4, 0, (1, 1, None)), False)
        self.assertIs(is_why_come(store, looks, 0, 4, 0, (1, 0, ("own",))), False)
        self.assertIs(is_why_come(store, looks, 0, 3, 0, (1, 0, None)), False)
        self.assertIs(is_why_missing(store, looks, 0, 4, 2, (1, 2, None)), True)
        self.assertIs(is_why_missing(store, looks, 0, 4, 2, (0, 2, None)), False)
        self.assertIs(is_why_missing(store, looks, 1, 3, 2, (1, 2, None)), True)
        self.assertIs(is_why_missing(store, [Look(0, [[0, 1]])], 0, 4, 2, (0, 2, None)), False)

    def test_open(self):
        for write in range(3):
            self.refuses(Open, {"write": write}, why_come, STAR, [], 0, 5, write)
            self.refuses(Open, {"write": write}, why_missing, STAR, [], 0, 5, write)
        self.refuses(Open, {"write": 0}, why_missing, STAR, LOOKS, 0, 5, 0)
        self.assertEqual(fate(STAR, LOOKS, 0, 5, 0), "come")


class TestHaveHistory(LooksleftCase):

    def check_lot(self, store, looks, house, moment, lot, right, sure):
        """A history for a lot that can have come, or the write that shows why it cannot."""
        low = [write for write in range(len(store)) if all(write in other for other in right)]
        high = [write for write in range(len(store)) if any(write in other for other in right)]
        lacked = [write for write in low if write not in lot]
        too_many = [write for write in sorted(lot) if write not in high]
        due = sorted({x for x, z in sure if z in lot and x not in lot})
        wrong = lacked or too_many or due
        self.assertIs(not wrong, tuple(sorted(lot)) in right)
        if wrong:
            self.refuses(CannotHave, {"write": wrong[0]}, have_history, store, looks, house, moment, lot)
            return (lacked and "lacked", too_many and "too many", due and "due")
        told = have_history(store, looks, house, moment, lot)
        further = looks + [Look(house, [lot] if lot else [], moment=moment)]
        self.assertTrue(keeps_all(store, further, told))
        self.assertEqual((type(told), [type(part) for part in told]), (tuple, [list] * 3))
        self.assertEqual(len(told[2]), len(looks) + 1)
        if len(further) < 10:
            self.assertIs(is_history(store, further, told), True)
        return "history"

    def test_for_each_lot_that_can_have_come(self):
        chooser = random.Random(96)
        kinds = []
        for search, looks, ends in cases.fitting_looks(96, 250, 15):
            store = search.store
            for moment in moments_to_ask(looks, chooser, 2):
                cuts = search.cuts(looks, moment)
                for house in range(store.tree.houses):
                    right, sure = lots_by(cuts, house), brute.surely(ends, house)
                    for lot in subsets(store):
                        lot = chooser.sample(lot, len(lot))
                        found = self.check_lot(store, looks, house, moment, lot, right, sure)
                        kinds.append(found if found == "history" else tuple(bool(part) for part in found))
        # Each of the three kinds of wrong writes, also ahead of the ones that come behind it. What the least lot has
        # is ahead of what the greatest one lacks, so that there is no lot with wrong writes of the first two kinds alone.
        self.assertEqual(set(kinds), {"history", (True, True, True), (True, False, True), (True, False, False),
                                      (False, True, True), (False, True, False), (False, False, True)})

    def test_nine_looks_and_one_more(self):
        looks = [Look(1, [], moment=0), Look(1, [[0]], moment=1), Look(1, [[0], [2]], moment=5), Look(2, [[1]], moment=5), Look(3, [[2]]),
                 Look(2, [[1], [0]], moment=6), Look(3, [], moment=0), Look(0, []), Look(2, [[1, 0]])]
        search = brute.Search(STAR)
        self.assertTrue(search.ends(looks))
        for moment in (-1, 0, 3, 5, 9):
            cuts = search.cuts(looks, moment)
            for house in range(4):
                for lot in subsets(STAR):
                    self.check_lot(STAR, looks, house, moment, list(lot), lots_by(cuts, house), brute.surely(search.ends(looks), house))
        self.assertEqual(len(have_history(STAR, looks, 0, 5, [2, 0])[2]), 10)
        self.assertIsNone(have_history(STAR, tuple(looks), 0, 5, (2, 0))[2][4])

    def test_the_place_of_the_further_look_and_an_empty_lot(self):
        store = Store(line_tree(2), [0, 1])
        looks = [Look(0, [[0]], moment=5)]
        self.assertEqual(have_history(store, looks, 1, 5, [])[2], [1, 1])
        books, script, places = have_history(store, looks, 1, 4, ())
        self.assertTrue(places[1] <= places[0])
        self.assertEqual(have_history(store, [], 1, 4, [])[2], [0])
        self.assertEqual(have_history(Store(line_tree(2), []), [], 1, 4, []), ([[], []], [], [0]))
        books, script, places = have_history(store, looks, 1, 6, [0, 1])
        self.assertTrue(places[0] <= places[1])
        self.refuses(CannotHave, {"write": 1}, have_history, store, looks, 0, 5, [0, 1])
        self.refuses(CannotHave, {"write": 0}, have_history, store, looks, 0, 5, [1])


class TestErrors(LooksleftCase):

    def calls(self, store, looks, house, moment, write=None):
        args = (store, looks, house, moment, write)
        return [(why_come, args), (why_missing, args), (is_why_come, args + (None,)), (is_why_missing, args + (None,)), (have_history, args)]

    def test_looks_first(self):
        self.refuses_wrong_looks(lambda wrong: self.calls(STAR, wrong, -1, None))

    def test_looks_that_do_not_fit(self):
        lists = [*cases.unfit_looks(97, 50), (STAR, UNFIT)]
        self.refuses_unfit_looks(lists, lambda store, looks: self.calls(store, looks, -1, None))

    def test_houses_and_moments(self):
        for house in no_numbers() + [-1, 4]:
            for function, args in self.calls(STAR, LOOKS, house, None):
                self.refuses_given(InvalidHouse, house, function, *args)
        for moment in (None, True, False, "5", "", [], [5], (5,), {}, STAR):
            for function, args in self.calls(STAR, LOOKS, 0, moment):
                self.refuses_given(InvalidMoment, moment, function, *args)

    def test_writes_and_lots(self):
        for write in no_numbers() + [-1, 3]:
            for function, args in self.calls(STAR, LOOKS, 0, 5, write)[:4]:
                self.refuses_given(InvalidWrite, write, function, *args)
        for lot in (None, True, False, 0, "", "0", {}, STAR, LOOKS[0], [0, 0], (1, 2, 1), [True], [0, False], [3], [-1], ["0"], [[0]]):
            self.refuses_given(InvalidLot, lot, have_history, STAR, LOOKS, 0, 5, lot)


class TestArguments(LooksleftCase):

    def test_by_position_and_by_name(self):
        names = ["store", "looks", "house", "moment", "write"]
        reason = self.same(why_come, names, [STAR, LOOKS, 0, 5, 0])
        self.assertEqual(reason, (0, 2, ("one", 0, (1, 0))))
        self.assertIs(self.same(is_why_come, names + ["value"], [STAR, LOOKS, 0, 5, 0, reason]), True)
        reason = self.same(why_missing, names, [STAR, LOOKS, 2, 5, 2])
        self.assertIs(self.same(is_why_missing, names + ["value"], [STAR, LOOKS, 2, 5, 2, reason]), True)
        told = self.same(have_history, names[:4] + ["lot"], [STAR, LOOKS, 0, 4, [2, 0]])
        self.assertTrue(keeps_all(STAR, LOOKS + [Look(0, [[0, 2]], moment=4)], told))

    def test_a_lot_that_is_kept_by_nobody_and_a_list_that_changes(self):
        looks, lot = list(LOOKS), [2, 0]
        told = have_history(STAR, looks, 0, 4, lot)
        lot.clear()
        self.assertEqual(have_history(STAR, looks, 0, 4, [2, 0]), told)
        told[0][0].clear()
        told[1].clear()
        told[2].clear()
        self.assertTrue(keeps_all(STAR, LOOKS + [Look(0, [[0, 2]], moment=4)], have_history(STAR, looks, 0, 4, [2, 0])))
        looks.pop()
        self.refuses(Open, {"write": 0}, why_come, STAR, looks, 0, 5, 0)
        self.assertEqual(why_come(STAR, tuple(LOOKS), 0, 5, 0)[0], 0)

    def test_equal_answers_for_equal_objects_behind_other_calls(self):
        lists = [(search.store, looks) for search, looks, _ in cases.fitting_looks(98, 120)]
        first = [self.answers(*told) for told in lists]
        for (store, looks), answer in reversed(list(zip(lists, first))):
            self.assertEqual(self.answers(*cases.equal_ones(store, looks)), answer)

    def answers(self, store, looks):
        found = []
        for house, moment, write in itertools.product(range(store.tree.houses), range(4), range(len(store))):
            told = fate(store, looks, house, moment, write)
            if told != "open":
                found.append((why_come if told == "come" else why_missing)(store, looks, house, moment, write))
        for house, lot in itertools.product(range(store.tree.houses), subsets(store)):
            try:
                found.append(have_history(store, looks, house, 2, lot))
            except CannotHave as error:
                found.append(error.write)
        return found


if __name__ == "__main__":
    unittest.main()
