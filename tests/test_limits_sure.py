"""Point 12 for what is surely ahead, rows, needs and two houses: stores of 16 houses and 12 writes with 9 looks.

No search goes through such stores. Instead each answer is shown right by a paper or a reason, or wrong by books.
"""

import itertools
import math
import random
import unittest

from looksleft.ahead import ahead, behind_books, closed, is_ahead, is_paper, verdict, why_ahead, with_lot
from looksleft.books import is_standing
from looksleft.errors import NotARow, TooManyLooks
from looksleft.histories import is_fitting
from looksleft.later import earlier_standing, is_no_later, is_why_no_later, no_later, why_no_later
from looksleft.looks import Look
from looksleft.needs import apart, is_apart, is_needs, needless, needs, stretch
from looksleft.rows import count_rows, is_row, open_pairs, row_at, row_books, row_of
from looksleft.stores import Store
from tests import brute, cases
from tests.test_limits import big_stores, chance_run, nine_looks
from tests.test_needs import all_stretches
from tests.tools import LooksleftCase, line_tree


def fits(store, looks, books):
    """Whether books fit the looks by words, their moments not minded."""
    return is_fitting(store, looks, books) and all(brute.may_begin(look, tuple(books[look.house])) for look in looks)


class TestLimits(LooksleftCase):

    def runs(self):
        chooser = random.Random(43)
        for store in big_stores():
            _, states = chance_run(store, chooser)
            yield store, states, nine_looks(states, chooser), chooser

    def great_cases(self):
        """Stores with looks, the greatest ones and some that are less great, and a chooser."""
        chooser = random.Random(44)
        for store, _, looks, _ in self.runs():
            yield store, looks, chooser
        for _ in range(12):
            yield (*cases.middle_case(chooser), chooser)

    def test_each_pair_by_a_paper_or_by_books(self):
        kinds = set()
        for store, looks, chooser in self.great_cases():
            for house in chooser.sample(range(store.tree.houses), 2):
                told = ahead(store, looks, house)
                for x, z in itertools.permutations(range(len(store)), 2):
                    if (x, z) in told:
                        paper = why_ahead(store, looks, house, x, z)
                        self.assertIs(is_paper(store, looks, house, x, z, paper), True)
                        kinds.add(paper[0])
                    else:
                        books = behind_books(store, looks, house, x, z)
                        self.assertTrue(fits(store, looks, books))
                        self.assertLess(books[house].index(z), books[house].index(x))
                self.assertEqual(told, sorted(told))
                x, z = chooser.sample(range(len(store)), 2)
                self.assertIs(is_ahead(store, looks, house, x, z), (x, z) in told)
                expected = "ahead" if (x, z) in told else "behind" if (z, x) in told else "open"
                self.assertEqual(verdict(store, looks, house, x, z), expected)
        self.assertEqual(kinds, {"own", "one", "two"})

    def test_closed_lots(self):
        for store, _, looks, chooser in self.runs():
            house = chooser.randrange(16)
            lot = chooser.sample(range(12), 4)
            told = ahead(store, looks, house)
            self.assertEqual(closed(store, looks, house, lot), sorted(set(lot) | {x for x, z in told if z in lot}))
            self.refuses(TooManyLooks, {"many": 10}, with_lot, store, looks, house, lot)
            further = with_lot(store, looks[:8], house, lot)
            self.assertEqual((len(further), further[8].house), (9, house))
            self.assertTrue(set(ahead(store, looks[:8], 3)) <= set(ahead(store, further, 3)))

    def test_rows(self):
        for store, states, looks, chooser in self.runs():
            house = chooser.randrange(16)
            many = count_rows(store, looks, house)
            self.assertIs(is_row(store, looks, house, states[-1][house]), True)
            rows = [row_at(store, looks, house, at) for at in sorted({0, many // 3, many // 2, many - 1})]
            self.assertEqual(rows, sorted(rows))
            for row in rows:
                books = row_books(store, looks, house, row)
                self.assertTrue(fits(store, looks, books))
                self.assertEqual(books[house], row)
            pairs = open_pairs(store, looks, house)
            self.assertEqual(len(pairs) + len(ahead(store, looks, house)), 66)
            self.assertEqual(row_of(store, looks, house), None if pairs else states[-1][house])
            self.assertLessEqual(many, math.factorial(12))

    def test_looks_that_tell_all(self):
        for store, states, _, _ in self.runs():
            looks = [Look(house, [[write] for write in states[-1][house]], moment=9) for house in range(0, 16, 2)]
            for house in range(0, 16, 2):
                self.assertEqual((row_of(store, looks, house), count_rows(store, looks, house)), (states[-1][house], 1))
            self.assertLessEqual(len(needless(store, looks)), 8)

    def test_needless(self):
        for store, _, looks, _ in self.runs():
            told = [ahead(store, looks, house) for house in range(16)]
            expected = []
            for at in range(9):
                left = looks[:at] + looks[at + 1:]
                if all(ahead(store, left, house) == told[house] for house in range(16)):
                    expected.append(at)
            self.assertEqual(needless(store, looks), expected)

    def test_needs(self):
        rows = 0
        for store, states, _, chooser in self.runs():
            books = [list(book) for book in states[-1]]
            stretches = all_stretches(store, books)
            for place in chooser.sample(sorted(stretches), min(len(stretches), 20)):
                self.assertEqual(stretch(store, books, *place), stretches[place])
            self.assertIs(is_needs(store, books, list(range(16))), True)
            if max(len(found) for found in brute.near(store).values()) > 2:
                self.assertRaises(NotARow, needs, store, books)
                self.assertRaises(NotARow, apart, store, books)
                continue
            rows += 1
            found = needs(store, books)
            self.assertIs(is_needs(store, books, found), True)
            self.assertIs(is_apart(store, books, apart(store, books)), True)
            self.assertEqual(len(apart(store, books)), len(found))
        self.assertEqual(rows, 4)

    def test_two_houses(self):
        for store, looks, chooser in self.great_cases():
            for _ in range(2):
                house, other = [chooser.randrange(store.tree.houses) for _ in range(2)]
                told = no_later(store, looks, house, other)
                self.assertEqual(told, sorted(told))
                pairs = list(itertools.product(range(len(store)), repeat=2))
                for x, z in chooser.sample(pairs, min(len(pairs), 25)):
                    self.check_pair(store, looks, house, other, x, z, (x, z) in told)

    def check_pair(self, store, looks, house, other, x, z, sure):
        self.assertIs(is_no_later(store, looks, house, other, x, z), sure)
        if sure:
            reason = why_no_later(store, looks, house, other, x, z)
            self.assertIs(is_why_no_later(store, looks, house, other, x, z, reason), True)
            return
        books, counts = earlier_standing(store, looks, house, other, x, z)
        self.assertTrue(fits(store, looks, books))
        self.assertIs(is_standing(store, books, counts), True)
        self.assertIn(z, books[other][:counts[other]])
        self.assertNotIn(x, books[house][:counts[house]])

    def test_most_rows(self):
        store = Store(line_tree(16), list(range(2, 14)))
        self.assertEqual(count_rows(store, [], 15), math.factorial(12))
        self.assertEqual(row_at(store, [], 15, math.factorial(12) - 1), list(range(12))[::-1])
        self.assertTrue(fits(store, [], row_books(store, [], 15, list(range(12))[::-1])))


if __name__ == "__main__":
    unittest.main()
