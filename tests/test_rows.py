"""Points 71 and 72: the rows that the book of a house can be."""

import itertools
import math
import random
import unittest

from looksleft.ahead import ahead
from looksleft.errors import InvalidHouse, InvalidIndex, InvalidRow
from looksleft.looks import Look
from looksleft.rows import count_rows, is_row, open_pairs, row_at, row_books, row_of
from looksleft.stores import Store
from tests import brute, cases
from tests.tools import LooksleftCase, line_tree, no_numbers, odd_values, star_tree

STAR = Store(star_tree(4), [1, 2, 3])
LOOKS = [Look(1, [[0, 2]]), Look(2, [[0, 1]])]
UNFIT = [Look(0, [[0]], moment=1), Look(0, [], moment=2)]
WIDE = Store(line_tree(12), list(range(12)))


class TestRows(LooksleftCase):

    def test_rows_of_each_house(self):
        single = 0
        for search, looks, ends in cases.fitting_looks(61, 500, 60):
            store = search.store
            for house in range(store.tree.houses):
                rows = sorted({end[house] for end in ends})
                self.assertEqual(count_rows(store, looks, house), len(rows))
                self.assertEqual([tuple(row_at(store, looks, house, at)) for at in range(len(rows))], rows)
                self.refuses_given(InvalidIndex, len(rows), row_at, store, looks, house, len(rows))
                told = brute.surely(ends, house)
                pairs = [pair for pair in itertools.combinations(range(len(store)), 2)
                         if pair not in told and pair[::-1] not in told]
                self.assertEqual(open_pairs(store, looks, house), pairs)
                self.assertEqual(row_of(store, looks, house), rows[0] if len(rows) == 1 else None)
                self.assertIs(len(rows) == 1, not pairs)
                single += len(rows) == 1
        self.assertGreater(single, 100)

    def test_is_row(self):
        for search, looks, ends in cases.fitting_looks(62, 200, 25):
            for house in range(search.store.tree.houses):
                rows = {end[house] for end in ends}
                for value in itertools.permutations(range(len(search.store))):
                    self.assertIs(is_row(search.store, looks, house, value), value in rows)
                    self.assertIs(is_row(search.store, looks, house, list(value)), value in rows)

    def test_values_that_are_no_rows(self):
        self.assertEqual([is_row(STAR, LOOKS, 3, value) for value in ([0, 2, 1], (2, 0, 1), [1, 0, 2])], [True, True, False])
        for value in odd_values() + [[False, 2, 1], [0, 2, True], [0, 2], [0, 2, 1, 1], [0, 2, 2], [0, 2, 3], [-3, 2, 1], "021",
                                     {0: 0, 2: 2, 1: 1}, ["0", "2", "1"], [[0, 2, 1]], [0, 2, None]]:
            self.assertIs(is_row(STAR, LOOKS, 3, value), False, value)
        empty = Store(line_tree(2), [])
        self.assertEqual([is_row(empty, [], 1, value) for value in ([], (), [0], None, "", {}, [[]])], [True] * 2 + [False] * 5)

    def test_stores_without_writes_and_of_one_home(self):
        empty = Store(line_tree(3), [])
        self.assertEqual([count_rows(empty, [], 2), row_of(empty, [], 2), row_at(empty, [], 2, 0), open_pairs(empty, [], 2)],
                         [1, (), [], []])
        self.assertEqual(row_books(empty, [], 2, []), [[], [], []])
        self.refuses_given(InvalidIndex, 1, row_at, empty, [], 2, 1)
        home = Store(star_tree(3), [2] * 12)
        self.assertEqual([count_rows(home, [], 1), row_of(home, [], 1)], [1, tuple(range(12))])

    def test_more_rows_than_can_be_listed(self):
        many = math.factorial(12)
        for house in (0, 7):
            self.assertEqual(count_rows(WIDE, [], house), many)
            self.assertEqual(row_at(WIDE, [], house, 0), list(range(12)))
            self.assertEqual(row_at(WIDE, [], house, 1), list(range(10)) + [11, 10])
            self.assertEqual(row_at(WIDE, [], house, many - 1), list(range(12))[::-1])
            self.assertEqual(row_at(WIDE, [], house, 5 * math.factorial(11)), [5] + [w for w in range(12) if w != 5])
            for index in (many, many + 1, -1, -many, 10 ** 19):
                self.refuses_given(InvalidIndex, index, row_at, WIDE, [], house, index)
            self.assertIsNone(row_of(WIDE, [], house))
            self.assertEqual(len(open_pairs(WIDE, [], house)), 66)
            self.assertIs(is_row(WIDE, [], house, [11, 3, 0, 1, 2, 4, 10, 9, 8, 7, 6, 5]), True)

    def test_numbers_of_rows_that_stand_far_apart(self):
        chooser = random.Random(63)
        looks = [Look(3, [[4, 5], [1, 7, 2], [0]]), Look(9, [[9, 8, 7, 6]])]
        many = count_rows(WIDE, looks, 6)
        self.assertLess(many, math.factorial(12))
        places = sorted(chooser.sample(range(many), 60))
        rows = [row_at(WIDE, looks, 6, at) for at in places]
        self.assertEqual(rows, sorted(rows))
        told = ahead(WIDE, looks, 6)
        for row in rows:
            self.assertIs(is_row(WIDE, looks, 6, row), True)
            self.assertTrue(all(row.index(x) < row.index(z) for x, z in told))

    def test_books_with_each_row(self):
        for search, looks, ends in cases.fitting_looks(64, 250, 30):
            for house in range(search.store.tree.houses):
                for row in sorted({end[house] for end in ends})[:12]:
                    books = row_books(search.store, looks, house, list(row))
                    self.assertEqual(books[house], list(row))
                    self.assertIn(tuple(map(tuple, books)), ends)
                    self.assertEqual((type(books), {type(book) for book in books}), (list, {list}))
                    self.assertEqual(row_books(search.store, tuple(looks), house, row), books)


class TestErrors(LooksleftCase):

    def calls(self, store, looks, house, index=0, row=None):
        return [(count_rows, (store, looks, house)), (is_row, (store, looks, house, row)), (row_of, (store, looks, house)),
                (open_pairs, (store, looks, house)), (row_at, (store, looks, house, index)),
                (row_books, (store, looks, house, row))]

    def test_looks_first(self):
        self.refuses_wrong_looks(lambda wrong: self.calls(STAR, wrong, -1, -1))

    def test_looks_that_do_not_fit(self):
        lists = [*cases.unfit_looks(65, 40), (STAR, UNFIT)]
        self.refuses_unfit_looks(lists, lambda store, looks: self.calls(store, looks, -1, -1))

    def test_houses(self):
        for house in no_numbers() + [-1, 4]:
            for function, args in self.calls(STAR, LOOKS, house, None):
                self.refuses_given(InvalidHouse, house, function, *args)

    def test_indices_and_rows(self):
        for index in no_numbers() + [-1, 2, 3]:
            self.refuses_given(InvalidIndex, index, row_at, STAR, LOOKS, 3, index)
        for row in odd_values() + [[1, 0, 2], [0, 2], [0, 2, True], [0, 1, 2], [2, 1, 0]]:
            self.refuses_given(InvalidRow, row, row_books, STAR, LOOKS, 3, row)


class TestArguments(LooksleftCase):

    def test_by_position_and_by_name(self):
        names = ["store", "looks", "house"]
        self.assertEqual(self.same(count_rows, names, [STAR, LOOKS, 3]), 2)
        self.assertIs(self.same(is_row, names + ["value"], [STAR, LOOKS, 3, [2, 0, 1]]), True)
        self.assertEqual(self.same(row_of, names, [STAR, LOOKS, 0]), (0, 2, 1))
        self.assertIs(type(row_of(STAR, LOOKS, 0)), tuple)
        self.assertEqual(self.same(open_pairs, names, [STAR, LOOKS, 2]), [(0, 1)])
        self.assertEqual(self.same(row_at, names + ["index"], [STAR, LOOKS, 3, 1]), [2, 0, 1])
        self.assertEqual(self.same(row_books, names + ["row"], [STAR, LOOKS, 3, [2, 0, 1]])[3], [2, 0, 1])

    def test_equal_answers_for_equal_objects_behind_other_calls(self):
        lists = [(search.store, looks) for search, looks, _ in cases.fitting_looks(66, 120, 10)]
        first = [self.answers(*told) for told in lists]
        for (store, looks), answer in reversed(list(zip(lists, first))):
            self.assertEqual(self.answers(*cases.equal_ones(store, looks)), answer)

    def answers(self, store, looks):
        return [(count_rows(store, looks, house), row_books(store, looks, house, row_at(store, looks, house, 0)),
                 row_of(store, looks, house)) for house in range(store.tree.houses)]

    def test_a_list_that_changes_and_a_row_that_is_kept_by_nobody(self):
        looks = list(LOOKS)
        row = [2, 0, 1]
        books = row_books(STAR, looks, 3, row)
        row.reverse()
        self.assertEqual(books[3], [2, 0, 1])
        looks.pop()
        self.assertEqual((count_rows(STAR, looks, 3), count_rows(STAR, LOOKS, 3)), (3, 2))
        told = row_at(STAR, LOOKS, 3, 1)
        told.clear()
        self.assertEqual(row_at(STAR, LOOKS, 3, 1), [2, 0, 1])


if __name__ == "__main__":
    unittest.main()
