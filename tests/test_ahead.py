"""Points 61 to 65: what is surely ahead, papers, books with it the other way, and closed lots."""

import itertools
import random
import unittest

from looksleft.ahead import ahead, behind_books, closed, is_ahead, is_paper, verdict, why_ahead, with_lot
from looksleft.errors import InvalidHouse, InvalidLot, InvalidWrite, NotAhead, SameWrite
from looksleft.errors import SurelyAhead, TooManyLooks
from looksleft.looks import Look
from looksleft.stores import Store
from looksleft.trees import Tree
from tests import brute, cases
from tests.test_pictures import told_arrows, told_borders
from tests.tools import LooksleftCase, line_tree, no_numbers, odd_values, star_tree

STAR = Store(star_tree(4), [1, 2, 3])
LOOKS = [Look(1, [[0, 2]]), Look(2, [[0, 1]])]
UNFIT = [Look(0, [[0]], moment=1), Look(0, [], moment=2)]


def told_papers(store, looks, house, x, z):
    """All papers for two writes and a house, by the words of the document."""
    found = set()
    if store.homes[x] == store.homes[z] and x < z:
        found.add(("own",))
    for q in brute.path(store, store.homes[z], house):
        leads = told_arrows(store, looks, q)
        found |= {("one", q, first[2:]) for first in leads if first[:2] == (x, z)}
        found |= {("two", q, first[2:], first[1], second[2:]) for first in leads for second in leads
                  if first[0] == x and first[1] == second[0] and second[1] == z}
    return found


def bent_papers(store, looks):
    """All tuples that may be papers, and some with houses, borders and writes that are not there."""
    houses, writes, told = range(-1, store.tree.houses + 1), range(-1, len(store) + 1), list(told_borders(looks))
    told += [(len(looks), 0), (-1, 0), (0, -1)]
    yield ("own",)
    yield from itertools.product(["one", "two"], houses, told)
    yield from itertools.product(["two", "one"], houses, told, writes, told)


def all_pairs(store):
    return itertools.permutations(range(len(store)), 2)


class TestAhead(LooksleftCase):

    def test_against_all_histories(self):
        lost = timed = 0
        for search, looks, ends in cases.fitting_looks(51, 1200, 120):
            for house in range(search.store.tree.houses):
                lost += house not in {look.house for look in looks} and len(looks) > 1
                self.assertEqual(ahead(search.store, looks, house), brute.surely(ends, house))
            timed += any(look.moment is not None for look in looks)
        self.assertGreater(lost, 200)
        self.assertGreater(timed, 200)

    def test_moments_change_nothing(self):
        for search, looks, _ in cases.fitting_looks(52, 300):
            bare = [Look(look.house, look.lots) for look in looks]
            for house in range(search.store.tree.houses):
                self.assertEqual(ahead(search.store, looks, house), ahead(search.store, bare, house))

    def test_two_borders_at_one_house(self):
        self.assertEqual(ahead(STAR, LOOKS, 0), [(0, 1), (0, 2), (2, 1)])
        self.assertEqual(ahead(STAR, LOOKS, 3), [(0, 1), (2, 1)])
        self.assertEqual(ahead(STAR, LOOKS[:1], 3), [(2, 1)])
        self.assertEqual(ahead(STAR, LOOKS[1:], 3), [])

    def test_arrows_at_two_houses_that_tell_nothing_together(self):
        # At house 0 an arrow leads from 2 to 1, and at house 2 one from 1 to 0; no house has both.
        store = Store(line_tree(4), [0, 3, 1])
        looks = [Look(2, [[1]]), Look(0, [[0, 2], [1]])]
        self.assertIn((2, 1), [leads[:2] for leads in told_arrows(store, looks, 0)])
        self.assertIn((1, 0), [leads[:2] for leads in told_arrows(store, looks, 2)])
        self.assertEqual(verdict(store, looks, 2, 2, 0), "open")
        self.assertEqual([ahead(store, looks, house) for house in range(3)], [[(0, 1), (2, 1)], [(2, 1)], [(1, 0), (1, 2)]])
        self.assertEqual(brute.surely(brute.Search(store).ends(looks), 2), [(1, 0), (1, 2)])

    def test_writes_of_one_home(self):
        store = Store(line_tree(3), [2, 0, 2, 2])
        for house in range(3):
            self.assertEqual(ahead(store, [], house), [(0, 2), (0, 3), (2, 3)])
            self.assertEqual(verdict(store, [], house, 3, 0), "behind")
            self.assertEqual(why_ahead(store, [], house, 0, 3), ("own",))

    def test_no_writes_and_one_house(self):
        self.assertEqual(ahead(Store(line_tree(2), []), [Look(1, [], moment=4)], 1), [])
        self.assertEqual(ahead(Store(Tree(1, []), [0, 0]), [], 0), [(0, 1)])

    def test_is_ahead_and_verdict(self):
        for search, looks, _ in cases.fitting_looks(53, 150, 20):
            store = search.store
            for house in range(store.tree.houses):
                told = ahead(store, looks, house)
                for x, z in itertools.product(range(len(store)), repeat=2):
                    self.assertIs(is_ahead(store, looks, house, x, z), (x, z) in told)
                    if x == z:
                        self.refuses(SameWrite, {"write": x}, verdict, store, looks, house, x, z)
                    else:
                        expected = "ahead" if (x, z) in told else "behind" if (z, x) in told else "open"
                        self.assertEqual(verdict(store, looks, house, x, z), expected)


class TestErrors(LooksleftCase):

    def calls(self, store, looks, house, x=0, z=1):
        """All functions of the stage, as far as the writes can be told."""
        return [(ahead, (store, looks, house)), (is_ahead, (store, looks, house, x, z)), (verdict, (store, looks, house, x, z)),
                (why_ahead, (store, looks, house, x, z)), (is_paper, (store, looks, house, x, z, ("own",))),
                (behind_books, (store, looks, house, x, z)), (closed, (store, looks, house, [x])),
                (with_lot, (store, looks, house, [x]))]

    def test_looks_first(self):
        self.refuses_wrong_looks(lambda wrong: self.calls(STAR, wrong, -1, None, None))

    def test_looks_that_do_not_fit(self):
        lists = [*cases.unfit_looks(54, 60), (STAR, UNFIT)]
        self.refuses_unfit_looks(lists, lambda store, looks: self.calls(store, looks, True, None, None))

    def test_houses(self):
        for house in no_numbers() + [-1, 4]:
            for function, args in self.calls(STAR, LOOKS, house, None, None):
                self.refuses_given(InvalidHouse, house, function, *args)

    def test_writes(self):
        for write in no_numbers() + [-1, 3]:
            for function, args in self.calls(STAR, LOOKS, 0, write, 0)[1:6]:
                self.refuses_given(InvalidWrite, write, function, *args)
            for function, args in self.calls(STAR, LOOKS, 0, 0, write)[1:6]:
                self.refuses_given(InvalidWrite, write, function, *args)
            for function, args in self.calls(STAR, LOOKS, 0, write, [write])[1:6]:
                self.refuses_given(InvalidWrite, write, function, *args)

    def test_same_write(self):
        for function, args in self.calls(STAR, LOOKS, 0, 2, 2)[2:6]:
            self.refuses(SameWrite, {"write": 2}, function, *args)
        self.assertIs(is_ahead(STAR, LOOKS, 0, 2, 2), False)


class TestPapers(LooksleftCase):

    def test_a_paper_exactly_if_surely_ahead(self):
        kinds = set()
        for search, looks, ends in cases.fitting_looks(55, 300, 40):
            for house in range(search.store.tree.houses):
                told = brute.surely(ends, house)
                for x, z in all_pairs(search.store):
                    right = told_papers(search.store, looks, house, x, z)
                    self.assertIs(bool(right), (x, z) in told)
                    if not right:
                        self.refuses(NotAhead, {"x": x, "z": z}, why_ahead, search.store, looks, house, x, z)
                        continue
                    paper = why_ahead(search.store, looks, house, x, z)
                    self.assertIn(paper, right)
                    self.assertIs(is_paper(search.store, looks, house, x, z, paper), True)
                    kinds.add(paper[0])
        self.assertEqual(kinds, {"own", "one", "two"})

    def test_right_and_bent_papers(self):
        chooser = random.Random(56)
        kinds = set()
        for search, looks, _ in cases.fitting_looks(56, 120, 20):
            store = search.store
            if len(store) < 2:
                continue
            house = chooser.randrange(store.tree.houses)
            x, z = chooser.sample(range(len(store)), 2)
            right = told_papers(store, looks, house, x, z)
            candidates = list(bent_papers(store, looks))
            chosen = chooser.sample(candidates, min(len(candidates), 250))
            for value in set(chosen) | set(itertools.islice(sorted(right, key=repr), 20)):
                self.assertIs(is_paper(store, looks, house, x, z, value), value in right, value)
            kinds |= {value[0] for value in right}
        self.assertEqual(kinds, {"own", "one", "two"})

    def test_all_tuples_in_the_star(self):
        looks = LOOKS + [Look(3, [[2], [0]])]
        for house, (x, z) in itertools.product(range(4), all_pairs(STAR)):
            right = told_papers(STAR, looks, house, x, z)
            found = {value for value in bent_papers(STAR, looks) if is_paper(STAR, looks, house, x, z, value)}
            self.assertEqual(found, right)

    def test_values_that_are_no_papers(self):
        right = ("two", 0, (1, 0), 2, (0, 0))
        self.assertIs(is_paper(STAR, LOOKS, 3, 0, 1, right), True)
        bent = [list(right), ("two", 0, [1, 0], 2, (0, 0)), ("two", 0, (1, 0), 2, [0, 0]), ("two", False, (1, 0), 2, (0, 0)),
                ("two", 0, (True, 0), 2, (0, 0)), ("two", 0, (1, False), 2, (0, 0)), ("two", 0, (1, 0), 2, (False, 0)),
                ("two", 2, (1, 0), 2, (0, 0)), ("two", 3, (1, 0), 2, (0, 0)), ("two", 1, (1, 0), 2, (0, 0)),
                ("two", 4, (1, 0), 2, (0, 0)), ("two", -4, (1, 0), 2, (0, 0)), ("two", 0, (0, 0), 2, (1, 0)),
                ("two", 0, (1, 0), 0, (0, 0)), ("two", 0, (1, 0), 1, (0, 0)), ("two", 0, (1, 0), 3, (0, 0)),
                ("two", 0, (1, 0), -1, (0, 0)), ("two", 0, (1, 0), None, (0, 0)), ("two", 0, (1, 0), "2", (0, 0)),
                ("two", 0, (1, 1), 2, (0, 0)), ("two", 0, (2, 0), 2, (0, 0)), ("two", 0, (-1, 0), 2, (0, 0)),
                ("two", 0, (1, 0), 2), ("two", 0, (1, 0), 2, (0, 0), 0), ("one", 0, (1, 0), 2, (0, 0)), ("one", 0, (1, 0)),
                ("own",), ["own"], "own", ("Own",), (), ("one",), ("two",), ("own", 0), ("two", 0, None, 2, None), (STAR,),
                ("two", None, (1, 0), 2, (0, 0)), ("two", [0], (1, 0), 2, (0, 0)), (None, 0, (1, 0), 2, (0, 0))]
        for value in bent + odd_values():
            self.assertIs(is_paper(STAR, LOOKS, 3, 0, 1, value), False, value)
        store = Store(line_tree(2), [0, 0, 1])
        looks = [Look(1, [[2], [0]])]
        self.assertIs(is_paper(store, looks, 1, 0, 1, ("own",)), True)
        self.assertIs(is_paper(store, looks, 1, 1, 0, ("own",)), False)
        for value in odd_values() + [("Own",), ("one",), ("two",), (None,), (True,), ["own"], ("own", 0), (("own",),)]:
            self.assertIs(is_paper(store, looks, 1, 0, 1, value), False, value)
        self.assertIs(is_paper(store, looks, 1, 2, 1, ("one", 1, (0, 1))), True)
        for value in (("one", 1, (0, True)), ("one", True, (0, 1)), ("one", 1, [0, 1]), ("one", 0, (0, 1)), ("one", 1, (0, 2)),
                      ["one", 1, (0, 1)], ("two", 1, (0, 1)), ("own",), ("one", 1, (1, 0))):
            self.assertIs(is_paper(store, looks, 1, 2, 1, value), False, value)
        for value in odd_values():
            self.assertIs(is_paper(store, looks, 1, 2, 1, value), False, value)

    def test_a_write_between_that_is_true_or_false(self):
        looks = [Look(3, [[0, 2]]), Look(1, [[0, 1], [2]])]
        right = ("two", 0, (0, 0), 1, (1, 0))
        self.assertIs(is_paper(STAR, looks, 0, 0, 2, right), True)
        self.assertIs(is_paper(STAR, looks, 0, 0, 2, ("two", 0, (0, 0), True, (1, 0))), False)
        looks = [Look(3, [[1, 2]]), Look(2, [[0, 1], [2]])]
        self.assertIs(is_paper(STAR, looks, 0, 1, 2, ("two", 0, (0, 0), 0, (1, 0))), True)
        self.assertIs(is_paper(STAR, looks, 0, 1, 2, ("two", 0, (0, 0), False, (1, 0))), False)

    def test_a_house_off_the_way_shows_nothing(self):
        # At house 0 and at house 2 an arrow leads from 0 to 1, but the way from the home of 1 to house 3 goes over 0 alone.
        looks = [Look(2, [[0]])]
        self.assertEqual(told_arrows(STAR, looks, 2)[:1], [(0, 1, 0, 0)])
        self.assertIs(is_paper(STAR, looks, 2, 0, 2, ("one", 2, (0, 0))), True)
        self.assertIs(is_paper(STAR, looks, 3, 0, 2, ("one", 2, (0, 0))), False)
        self.assertEqual(told_papers(STAR, looks, 3, 0, 2), set())
        self.assertIs(is_paper(STAR, looks, 1, 0, 2, ("one", 0, (0, 0))), True)
        self.assertIs(is_paper(STAR, looks, 1, 0, 2, ("one", 2, (0, 0))), False)


class TestBehindBooks(LooksleftCase):

    def test_exactly_if_some_history_has_it_so(self):
        for search, looks, ends in cases.fitting_looks(57, 500, 60):
            for house in range(search.store.tree.houses):
                told = brute.surely(ends, house)
                for x, z in all_pairs(search.store):
                    if (x, z) in told:
                        self.refuses(SurelyAhead, {"x": x, "z": z}, behind_books, search.store, looks, house, x, z)
                        continue
                    books = behind_books(search.store, looks, house, x, z)
                    self.assertIn(tuple(map(tuple, books)), ends)
                    self.assertEqual((type(books), {type(book) for book in books}), (list, {list}))
                    self.assertLess(books[house].index(z), books[house].index(x))


class TestClosed(LooksleftCase):

    def test_closed_lots_and_the_looks_with_them(self):
        chooser = random.Random(58)
        for search, looks, ends in cases.fitting_looks(58, 400, 40):
            store = search.store
            house = chooser.randrange(store.tree.houses)
            lot = chooser.sample(range(len(store)), chooser.randint(0, len(store)))
            told = brute.surely(ends, house)
            expected = sorted(set(lot) | {x for x, z in told if z in lot})
            self.assertEqual(closed(store, looks, house, lot), expected)
            further = with_lot(store, looks, house, tuple(lot))
            self.assertIs(type(further), list)
            self.assertEqual(further, looks + [Look(house, [expected] if expected else [])])
            self.assertIsNone(further[-1].moment)
            self.assertTrue(search.ends(further))
            for other in range(store.tree.houses):
                self.assertEqual(ahead(store, further, other), brute.surely(search.ends(further), other))

    def test_what_is_ahead_with_the_new_look(self):
        further = with_lot(STAR, LOOKS[:1], 3, [1, 0])
        self.assertEqual(further[1].lots, ((0, 1, 2),))
        further = with_lot(STAR, [], 3, [2, 1])
        self.assertEqual([ahead(STAR, further, house) for house in range(4)], [[(1, 0)], [], [(1, 0)], [(1, 0), (2, 0)]])

    def test_empty_lots(self):
        self.assertEqual(closed(STAR, LOOKS, 2, []), [])
        self.assertEqual(with_lot(STAR, LOOKS, 2, ()), LOOKS + [Look(2, [])])
        self.assertEqual(with_lot(Store(line_tree(2), []), [], 1, []), [Look(1, [])])

    def test_wrong_lots_and_too_many_looks(self):
        nine = LOOKS + [Look(3, [])] * 7
        for lot in (None, True, False, 0, "", "0", {}, {"0": 0}, STAR, LOOKS[0], [0, 0], [1, 2, 1], (0, 0), [True], [0, True],
                    [False], [3], [-1], ["0"], [[0]], [None], [0, 10 ** 19]):
            for looks in (LOOKS, nine):
                self.refuses_given(InvalidLot, lot, closed, STAR, looks, 0, lot)
                self.refuses_given(InvalidLot, lot, with_lot, STAR, looks, 0, lot)
        self.refuses(TooManyLooks, {"many": 10}, with_lot, STAR, nine, 0, [0])
        self.refuses(TooManyLooks, {"many": 10}, with_lot, STAR, tuple(nine), 0, [])
        self.assertEqual(closed(STAR, nine, 0, [1]), [0, 1, 2])
        self.assertEqual(len(with_lot(STAR, nine[:8], 0, [0])), 9)


class TestArguments(LooksleftCase):

    def test_by_position_and_by_name(self):
        names = ["store", "looks", "house", "x", "z"]
        self.assertEqual(self.same(ahead, names[:3], [STAR, LOOKS, 0]), [(0, 1), (0, 2), (2, 1)])
        self.assertIs(self.same(is_ahead, names, [STAR, LOOKS, 3, 0, 1]), True)
        self.assertEqual(self.same(verdict, names, [STAR, LOOKS, 3, 1, 0]), "behind")
        paper = self.same(why_ahead, names, [STAR, LOOKS, 3, 0, 1])
        self.assertIs(self.same(is_paper, names + ["value"], [STAR, LOOKS, 3, 0, 1, paper]), True)
        self.assertEqual(self.same(behind_books, names, [STAR, LOOKS, 3, 2, 0])[3], [0, 2, 1])
        self.assertEqual(self.same(closed, names[:3] + ["lot"], [STAR, LOOKS, 3, [1]]), [0, 1, 2])
        self.assertEqual(len(self.same(with_lot, names[:3] + ["lot"], [STAR, LOOKS, 3, [1]])), 3)

    def test_tuples_for_lists(self):
        looks = tuple(LOOKS)
        self.assertEqual(ahead(STAR, looks, 0), ahead(STAR, LOOKS, 0))
        self.assertEqual(why_ahead(STAR, looks, 3, 0, 1), why_ahead(STAR, LOOKS, 3, 0, 1))
        self.assertEqual(behind_books(STAR, looks, 3, 2, 0), behind_books(STAR, LOOKS, 3, 2, 0))
        self.assertEqual(with_lot(STAR, looks, 3, (1,)), with_lot(STAR, LOOKS, 3, [1]))

    def test_equal_answers_for_equal_objects_behind_other_calls(self):
        lists = [(search.store, looks) for search, looks, _ in cases.fitting_looks(59, 150, 15)]
        first = [self.answers(*told) for told in lists]
        for (store, looks), answer in reversed(list(zip(lists, first))):
            self.assertEqual(self.answers(*cases.equal_ones(store, looks)), answer)

    def answers(self, store, looks):
        found = []
        for house in range(store.tree.houses):
            told = ahead(store, looks, house)
            for x, z in all_pairs(store):
                found.append((why_ahead if (x, z) in told else behind_books)(store, looks, house, x, z))
        return found

    def test_one_object_in_two_stores_and_a_list_that_changes(self):
        look = Look(1, [[0]])
        tree = star_tree(4)
        stores = [Store(tree, [1, 2, 3]), Store(tree, [1, 1, 0])]
        looks = [look]
        self.assertEqual(ahead(stores[0], looks, 1), [(0, 1), (0, 2)])
        self.assertEqual(ahead(stores[1], looks, 1), [(0, 1), (0, 2)])
        looks.append(Look(2, [[1]]))
        self.assertEqual(ahead(stores[0], looks, 2), [(1, 0), (1, 2)])
        told = with_lot(stores[0], looks, 0, [2])
        told.clear()
        looks.pop()
        self.assertEqual(ahead(stores[0], looks, 2), [])
        self.assertTrue(look == Look(1, [[0]]))

    def test_changing_an_answer_changes_no_later_one(self):
        for function, args in ((ahead, (0,)), (behind_books, (3, 2, 0)), (closed, (3, [1])), (with_lot, (3, [1]))):
            told = function(STAR, LOOKS, *args)
            expected = function(STAR, LOOKS, *args)
            told.clear()
            self.assertEqual(function(STAR, LOOKS, *args), expected)


if __name__ == "__main__":
    unittest.main()
