"""Points 101 to 104: what copies can have shown of a cell, and what they can show at last."""

import itertools
import random
import unittest

from looksleft.errors import InvalidCell, InvalidHouse, InvalidMoment, InvalidWrite
from looksleft.errors import NeverCommon, NeverLast, NeverShown
from looksleft.looks import Look
from looksleft.shown import at_last, common, common_books, last_books, shown, shown_history, sure_common
from looksleft.stores import Store
from tests import cases
from tests.test_come import moments_to_ask
from tests.test_histories import keeps_all
from tests.tools import LooksleftCase, line_tree, no_numbers, odd_values, star_tree

STAR = Store(star_tree(4), [1, 2, 3], cells=[0, 0, 4])
LOOKS = [Look(1, [[0, 2]], moment=5), Look(2, [[0, 1]], moment=6)]
UNFIT = [Look(0, [[0]], moment=1), Look(0, [], moment=2)]
PAIR = Store(line_tree(2), [0, 1])


def coloured(store, chooser):
    """The store with other cells."""
    return Store(store.tree, store.homes, cells=[chooser.choice([0, 0, 0, 1, 5]) for _ in store.homes])


def last_of(store, book, cell):
    """The last write of a cell in a book, or None."""
    return ([None] + [write for write in book if store.cells[write] == cell])[-1]


def places_are_right(looks, moment, places):
    """Whether the last place stands where the moment does among the moments of the looks."""
    told = [(look.moment, place) for look, place in zip(looks, places) if look.moment is not None]
    return all(place <= places[-1] if other < moment else place == places[-1] if other == moment else place >= places[-1]
               for other, place in told)


class TestShown(LooksleftCase):

    def test_against_all_histories_and_all_their_places(self):
        chooser = random.Random(101)
        kinds = set()
        for search, looks, _ in cases.fitting_looks(101, 400, 25):
            store = coloured(search.store, chooser)
            for moment in moments_to_ask(looks, chooser):
                cuts = search.cuts(looks, moment)
                for house, cell in itertools.product(range(store.tree.houses), (0, 1, 5)):
                    right = {last_of(store, state[house], cell) for state in cuts}
                    expected = [None] * (None in right) + sorted(right - {None})
                    self.assertEqual(shown(store, looks, house, moment, cell), expected)
                    kinds.add((None in right, len(expected)))
                self.assertEqual(shown(store, looks, 0, moment, 3), [None])
        self.assertLessEqual({(True, 1), (True, 2), (True, 3), (False, 1), (False, 2)}, kinds)

    def test_a_history_for_each_of_them_and_no_others(self):
        chooser = random.Random(102)
        many = 0
        for search, looks, _ in cases.fitting_looks(102, 250, 15):
            store = coloured(search.store, chooser)
            moment = moments_to_ask(looks, chooser, 1)[0]
            for house, cell in itertools.product(range(store.tree.houses), (0, 1, 3)):
                found = shown(store, looks, house, moment, cell)
                for write in [None, *range(len(store))]:
                    args = (store, looks, house, moment, cell, write)
                    if write in found:
                        self.check_history(*args)
                        many += 1
                    else:
                        self.refuses(NeverShown, {"write": write}, shown_history, *args)
        self.assertGreater(many, 700)

    def check_history(self, store, looks, house, moment, cell, write):
        told = shown_history(store, looks, house, moment, cell, write)
        self.assertEqual((type(told), [type(part) for part in told]), (tuple, [list] * 3))
        books, script, places = told
        self.assertTrue(keeps_all(store, looks, (books, script, places[:-1])))
        self.assertEqual(len(places), len(looks) + 1)
        self.assertTrue(0 <= places[-1] <= len(script))
        self.assertTrue(places_are_right(looks, moment, places))
        come = [deed[-1] for deed in script[:places[-1]]].count(house)
        self.assertEqual(last_of(store, books[house][:come], cell), write)

    def test_nine_looks_and_one_place_more(self):
        looks = [Look(1, [], moment=0), Look(1, [[0]], moment=1), Look(1, [[0], [2]], moment=5), Look(2, [[1]], moment=5), Look(3, [[2]]),
                 Look(2, [[1], [0]], moment=6), Look(3, [], moment=0), Look(0, []), Look(2, [[1, 0]])]
        for house, moment, cell in itertools.product(range(4), (-1, 0, 3, 5, 6, 9), (0, 4)):
            for write in shown(STAR, looks, house, moment, cell):
                self.check_history(STAR, looks, house, moment, cell, write)

    def test_values_that_are_never_shown(self):
        store = Store(line_tree(2), [0, 1, 0])
        self.assertEqual(shown(store, [], 0, 5, 0), [None, 0, 1, 2])
        for value in odd_values():
            if not (value is None or type(value) is int and value in (0, 1, 2)):
                self.refuses_given_write(value, store, [], 0, 5, 0, value)
        for value in (True, False, 3, -1, "1", [0], (1,), 10 ** 19, [None]):
            self.refuses_given_write(value, store, [], 0, 5, 0, value)
        looks = [Look(0, [[0]], moment=3)]
        for value in (None, 1, 2, True, False, -3):
            self.refuses_given_write(value, store, looks, 0, 3, 0, value)
        self.refuses_given_write(0, store, looks, 0, 3, 1, 0)
        self.assertEqual(shown_history(store, looks, 0, 3, 1, None)[2], [1, 1])

    def refuses_given_write(self, write, *args):
        with self.assertRaises(NeverShown) as caught:
            shown_history(*args)
        self.assertEqual(list(vars(caught.exception)), ["write"])
        self.assertIs(caught.exception.write, write)

    def test_cells_that_nobody_wrote(self):
        for house, moment, cell in itertools.product(range(4), (4, 5, 9), (1, 2, 3, 5)):
            self.assertEqual(shown(STAR, LOOKS, house, moment, cell), [None])
            self.check_history(STAR, LOOKS, house, moment, cell, None)
        empty = Store(line_tree(2), [])
        self.assertEqual([shown(empty, [], 1, 0, 0), at_last(empty, [], 1, 0), common(empty, [], 0), sure_common(empty, [], 0)],
                         [[None], [], [], None])
        self.assertEqual(shown_history(empty, [], 1, 0, 0, None), ([[], []], [], [0]))

    def test_looks_without_moments_tell_of_the_order_alone(self):
        looks = [Look(0, [[0], [1]]), Look(1, [], moment=4)]
        self.assertEqual([shown(PAIR, looks, 0, moment, 0) for moment in (4, 5)], [[None, 0], [None, 0, 1]])
        self.assertEqual([shown(PAIR, looks, 1, moment, 0) for moment in (4, 5)], [[None], [None, 0, 1]])

    def test_writes_that_the_least_lot_hides(self):
        # At moment 5 write 1 has come behind 0 to house 0, so that the copy shows 1 or what may come behind it.
        store = Store(star_tree(3), [1, 1, 2])
        looks = [Look(0, [[0, 1]], moment=5)]
        self.assertEqual([shown(store, looks, house, 5, 0) for house in range(3)], [[1], [1], [None, 0, 1, 2]])
        self.assertEqual([shown(store, looks, house, 6, 0) for house in range(3)], [[1, 2], [1, 2], [None, 0, 1, 2]])


class TestLast(LooksleftCase):

    def test_in_one_house(self):
        chooser = random.Random(103)
        for search, looks, ends in cases.fitting_looks(103, 400, 30):
            store = coloured(search.store, chooser)
            for house in range(store.tree.houses):
                for cell in range(6):
                    right = sorted({last_of(store, end[house], cell) for end in ends} - {None})
                    self.assertEqual(at_last(store, looks, house, cell), right)
                for write in range(len(store)):
                    if write in at_last(store, looks, house, store.cells[write]):
                        books = last_books(store, looks, house, write)
                        self.assertIn(tuple(map(tuple, books)), ends)
                        self.assertEqual((type(books), {type(book) for book in books}), (list, {list}))
                        self.assertEqual(last_of(store, books[house], store.cells[write]), write)
                    else:
                        self.refuses(NeverLast, {"write": write}, last_books, store, looks, house, write)

    def test_in_all_houses(self):
        chooser = random.Random(104)
        kinds = set()
        for search, looks, ends in cases.fitting_looks(104, 500, 60):
            store = coloured(search.store, chooser)
            for cell in range(6):
                shows = [{last_of(store, book, cell) for book in end} for end in ends]
                right = sorted({write for found in shows if len(found) == 1 for write in found} - {None})
                self.assertEqual(common(store, looks, cell), right)
                sure = right[0] if len(right) == 1 and all(found == set(right) for found in shows) else None
                self.assertEqual(sure_common(store, looks, cell), sure)
                kinds.add((len(right), sure is None))
            for write in range(len(store)):
                if write in common(store, looks, store.cells[write]):
                    books = common_books(store, looks, write)
                    self.assertIn(tuple(map(tuple, books)), ends)
                    self.assertEqual((type(books), {type(book) for book in books}), (list, {list}))
                    self.assertEqual({last_of(store, book, store.cells[write]) for book in books}, {write})
                else:
                    self.refuses(NeverCommon, {"write": write}, common_books, store, looks, write)
        self.assertLessEqual({(0, True), (1, False), (1, True), (2, True)}, kinds)

    def test_by_words(self):
        looks = [Look(0, [[0]])]
        self.assertEqual([at_last(PAIR, looks, house, 0) for house in range(2)], [[1], [0, 1]])
        self.assertEqual([common(PAIR, looks, 0), sure_common(PAIR, looks, 0)], [[1], None])
        looks = [Look(1, [[0], [1]])]
        self.assertEqual([common(PAIR, looks, 0), sure_common(PAIR, looks, 0)], [[1], 1])
        looks = [Look(0, [[0]]), Look(1, [[1]])]
        self.assertEqual([common(PAIR, looks, 0), sure_common(PAIR, looks, 0)], [[], None])
        self.assertEqual([at_last(PAIR, looks, house, 0) for house in range(2)], [[1], [0]])
        self.refuses(NeverCommon, {"write": 1}, common_books, PAIR, looks, 1)
        self.refuses(NeverLast, {"write": 0}, last_books, PAIR, looks, 0, 0)
        self.assertEqual([common(STAR, [], 4), sure_common(STAR, [], 4), common(STAR, [], 1), sure_common(STAR, [], 1)], [[2], 2, [], None])


class TestErrors(LooksleftCase):

    def calls(self, store, looks, house, moment, cell, write=None):
        return [(shown, (store, looks, house, moment, cell)), (shown_history, (store, looks, house, moment, cell, write)),
                (at_last, (store, looks, house, cell)), (last_books, (store, looks, house, write)), (common, (store, looks, cell)),
                (sure_common, (store, looks, cell)), (common_books, (store, looks, write))]

    def test_looks_first(self):
        self.refuses_wrong_looks(lambda wrong: self.calls(STAR, wrong, -1, None, -1, -1))

    def test_looks_that_do_not_fit(self):
        lists = [*cases.unfit_looks(105, 50), (STAR, UNFIT)]
        self.refuses_unfit_looks(lists, lambda store, looks: self.calls(store, looks, -1, None, -1, -1))

    def test_houses(self):
        for house in no_numbers() + [-1, 4]:
            for function, args in self.calls(STAR, LOOKS, house, None, -1, -1)[:4]:
                self.refuses_given(InvalidHouse, house, function, *args)

    def test_moments(self):
        for moment in (None, True, False, "5", "", [], [5], (5,), {}, STAR):
            for function, args in self.calls(STAR, LOOKS, 0, moment, -1, -1)[:2]:
                self.refuses_given(InvalidMoment, moment, function, *args)

    def test_cells(self):
        for cell in no_numbers() + [-1, 6]:
            for function, args in self.calls(STAR, LOOKS, 0, 5, cell, -1):
                if function not in (last_books, common_books):
                    self.refuses_given(InvalidCell, cell, function, *args)

    def test_writes(self):
        for write in no_numbers() + [-1, 3]:
            self.refuses_given(InvalidWrite, write, last_books, STAR, LOOKS, 0, write)
            self.refuses_given(InvalidWrite, write, common_books, STAR, LOOKS, write)


class TestArguments(LooksleftCase):

    def test_by_position_and_by_name(self):
        names = ["store", "looks", "house", "moment", "cell"]
        looks = [Look(0, [[0]], moment=3)]
        self.assertEqual(self.same(shown, names, [PAIR, looks, 1, 3, 0]), [None, 0, 1])
        self.assertEqual(len(self.same(shown_history, names + ["write"], [PAIR, looks, 1, 3, 0, 1])[2]), 2)
        self.assertEqual(len(self.same(shown_history, names + ["write"], [PAIR, looks, 1, 3, 0, None])[2]), 2)
        self.assertEqual(self.same(at_last, ["store", "looks", "house", "cell"], [PAIR, looks, 1, 0]), [0, 1])
        self.assertEqual(self.same(last_books, ["store", "looks", "house", "write"], [PAIR, looks, 1, 0]), [[0, 1], [1, 0]])
        self.assertEqual(self.same(common, ["store", "looks", "cell"], [PAIR, looks, 0]), [1])
        self.assertIsNone(self.same(sure_common, ["store", "looks", "cell"], [PAIR, looks, 0]))
        self.assertEqual(self.same(common_books, ["store", "looks", "write"], [PAIR, looks, 1]), [[0, 1], [0, 1]])

    def test_answers_are_new_and_a_list_that_changes(self):
        looks = [Look(0, [[0]], moment=3)]
        for function, args in ((shown, (1, 3, 0)), (at_last, (1, 0)), (last_books, (1, 0)), (common, (0,)), (common_books, (1,))):
            told = function(PAIR, looks, *args)
            expected = function(PAIR, tuple(looks), *args)
            told.clear()
            self.assertEqual(function(PAIR, looks, *args), expected)
        looks.append(Look(1, [], moment=3))
        self.assertEqual(shown(PAIR, looks, 1, 3, 0), [None])
        self.assertEqual(shown(Store(line_tree(2), [0, 0]), looks, 0, 3, 0), [0])

    def test_equal_answers_for_equal_objects_behind_other_calls(self):
        chooser = random.Random(106)
        lists = [(coloured(search.store, chooser), looks) for search, looks, _ in cases.fitting_looks(106, 100)]
        first = [self.answers(*told) for told in lists]
        for (store, looks), answer in reversed(list(zip(lists, first))):
            self.assertEqual(self.answers(*cases.equal_ones(store, looks)), answer)

    def answers(self, store, looks):
        found = [common_books(store, looks, write) for cell in range(6) for write in common(store, looks, cell)]
        for house, cell in itertools.product(range(store.tree.houses), range(6)):
            found += [shown_history(store, looks, house, 2, cell, write) for write in shown(store, looks, house, 2, cell)]
            found += [last_books(store, looks, house, write) for write in at_last(store, looks, house, cell)]
        return found


if __name__ == "__main__":
    unittest.main()
