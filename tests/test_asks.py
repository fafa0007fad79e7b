"""Points 134 and 135: whether all copies show the same, by the answers of a few houses or by one house alone."""

import itertools
import random
import unittest

from looksleft.asks import alone, is_answers, next_ask, parted_books, verdict_of
from looksleft.balance import copies, parting
from looksleft.errors import Alone, InvalidAnswers, InvalidBook, InvalidCell, InvalidHouse, NeverWritten
from looksleft.looks import Look
from looksleft.stores import Store
from looksleft.trees import Tree
from tests import brute
from tests.test_balance import with_cells
from tests.test_books import faults
from tests.test_limits import big_stores, chance_run
from tests.test_shown import last_of
from tests.test_tables import celled_cases, tables_by_words, told_tables, writes_of_cell
from tests.tools import LooksleftCase, line_tree, no_numbers, odd_values, star_tree

STORE = Store(line_tree(3), [0, 2, 1], cells=[0, 0, 1])
BOOK = [0, 2, 1]


def matching(tables, answers):
    return [table for table in tables if all(table[house] == write for house, write in answers)]


def told_verdict(tables, answers):
    alike = {len(set(table)) == 1 for table in matching(tables, answers)}
    return "alike" if alike == {True} else "parted" if alike == {False} else None


def some_answers(store, tables, chooser):
    """Lists of answers: those of a table, in any order, sometimes bent."""
    table = chooser.choice(sorted(tables))
    for many in range(store.tree.houses + 1):
        houses = chooser.sample(range(store.tree.houses), min(many, chooser.choice([many, 2])))
        yield [(house, table[house]) for house in houses]
        yield [(house, chooser.randrange(len(store)) if chooser.random() < 0.3 else table[house]) for house in houses]


def orders_of_all(store):
    """All lists of all writes, those of one home in ascending order."""
    return [row for row in itertools.permutations(range(len(store)))
            if all(row.index(a) < row.index(b) for a, b in itertools.combinations(range(len(store)), 2) if store.homes[a] == store.homes[b])]


class TestAnswers(LooksleftCase):

    def test_against_all_tables(self):
        kinds = []
        chooser = random.Random(134)
        for search, store, cell in celled_cases(137, 150):
            tables = told_tables(search, store, cell)
            for answers in some_answers(store, tables, chooser):
                right = bool(matching(tables, answers))
                self.assertIs(is_answers(store, cell, answers), right)
                self.assertIs(is_answers(store, cell, tuple(answers)), right)
                if not right:
                    self.refuses_given(InvalidAnswers, answers, verdict_of, store, cell, answers)
                    self.refuses_given(InvalidAnswers, answers, next_ask, store, cell, answers)
                    kinds.append("wrong")
                    continue
                kinds.append(self.check_ask(store, cell, tables, answers))
        self.assertGreater(min(kinds.count(kind) for kind in ("wrong", "alike", "parted", None)), 20)

    def check_ask(self, store, cell, tables, answers):
        expected = told_verdict(tables, answers)
        self.assertEqual(verdict_of(store, cell, answers), expected)
        asked = next_ask(store, cell, answers)
        if expected is not None:
            self.assertIsNone(asked)
        elif not answers:
            self.assertEqual(asked, 0)
        else:
            # All answers are one write then, and the copy of its home tells the rest, whatever it shows.
            self.assertEqual({asked}, {store.homes[write] for _, write in answers})
            for table in matching(tables, answers):
                self.assertIsNotNone(verdict_of(store, cell, answers + [(asked, table[asked])]))
        return expected

    def test_behind_the_second_ask_the_verdict_is_told(self):
        for search, store, cell in celled_cases(138, 100):
            for table in sorted(told_tables(search, store, cell)):
                answers = []
                while next_ask(store, cell, answers) is not None:
                    house = next_ask(store, cell, answers)
                    answers.append((house, table[house]))
                self.assertLessEqual(len(answers), 2)
                self.assertEqual(verdict_of(store, cell, answers), "alike" if len(set(table)) == 1 else "parted")

    def test_answers_of_all_houses_and_of_none(self):
        for table in ([0, 0, 0], [1, 1, 1], [1, 0, 0], [1, 1, 0]):
            answers = list(enumerate(table))
            for row in itertools.permutations(answers):
                self.assertEqual(verdict_of(STORE, 0, row), "alike" if len(set(table)) == 1 else "parted")
        self.assertEqual([is_answers(STORE, 0, []), verdict_of(STORE, 0, ()), next_ask(STORE, 0, ())], [True, None, 0])
        self.assertEqual([verdict_of(STORE, 1, []), next_ask(STORE, 1, [])], ["alike", None])
        single = Store(Tree(1, []), [0, 0])
        self.assertEqual([verdict_of(single, 0, []), next_ask(single, 0, []), is_answers(single, 0, [(0, 0)])], ["alike", None, False])

    def test_two_answers_that_part_and_one_that_tells_all(self):
        self.assertEqual(verdict_of(STORE, 0, [(2, 0), (0, 1)]), "parted")
        self.assertEqual(verdict_of(STORE, 0, [(0, 0)]), "alike")
        self.assertEqual([verdict_of(STORE, 0, [(1, 1)]), next_ask(STORE, 0, [(1, 1)])], [None, 2])
        self.assertEqual([is_answers(STORE, 0, [(2, 1), (0, 0)]), is_answers(STORE, 0, [(0, 0), (2, 1)])], [False, False])
        star = Store(star_tree(4), [1, 2, 3])
        self.assertEqual([verdict_of(star, 0, [(0, 2)]), next_ask(star, 0, [(0, 2)]), next_ask(star, 0, [(0, 2), (1, 2)])], [None, 3, 3])
        self.assertEqual([verdict_of(star, 0, [(0, 2), (3, 0)]), verdict_of(star, 0, [(3, 2)])], ["parted", "alike"])

    def test_values_that_are_no_answers(self):
        for value in odd_values() + [[(0, 0), (0, 0)], [(0, 1), (0, 0)], [(0, 0, 0)], [(0,)], [[0, 0]], [0, 0], (0, 0), [(3, 0)], [(-1, 0)],
                                     [(0, 2)], [(0, 3)], [(0, -1)], [(False, 0)], [(0, False)], [(True, 1)], [(1, True)], [("0", 0)], [(0, "0")],
                                     [(0, None)], [(None, 0)], [None], {0: 0}, {(0, 0): 0}, [()], [(0, 0), None], "00", [(0, (0,))],
                                     [((0,), 0)], [(STORE, 0)], [(0, Look(0, []))], [(0, 0), (1, 2)]]:
            if value not in ([], ()):
                self.assertIs(is_answers(STORE, 0, value), False, value)
                self.refuses_given(InvalidAnswers, value, verdict_of, STORE, 0, value)
                self.refuses_given(InvalidAnswers, value, next_ask, STORE, 0, value)

    def test_stores_at_the_limits(self):
        chooser = random.Random(139)
        kinds = []
        for store in big_stores():
            store = Store(store.tree, store.homes, cells=[chooser.choice([0, 0, 0, 4]) for _ in store.homes])
            for cell in sorted(set(store.cells)):
                tables = tables_by_words(store, cell)
                for answers in some_answers(store, tables, chooser):
                    self.assertIs(is_answers(store, cell, answers), bool(matching(tables, answers)))
                    if matching(tables, answers):
                        kinds.append(self.check_ask(store, cell, tables, answers))
        self.assertEqual(set(kinds), {"alike", "parted", None})


class TestAlone(LooksleftCase):

    def test_against_the_books_of_all_histories(self):
        kinds = []
        chooser = random.Random(140)
        for search, store, cell in celled_cases(141, 60):
            rows = orders_of_all(store)
            for house in range(store.tree.houses):
                for book in chooser.sample(rows, min(len(rows), 8)):
                    ends = [end for end in search.last if end[house] == book]
                    parted = [end for end in ends if len({last_of(store, other, cell) for other in end}) > 1]
                    self.assertTrue(ends)
                    self.assertIs(alone(store, house, list(book), cell), not parted)
                    self.check_parted(store, house, list(book), cell, parted)
                    kinds.append(bool(parted))
        self.assertGreater(min(kinds.count(True), kinds.count(False)), 100)

    def check_parted(self, store, house, book, cell, parted):
        if not parted:
            self.refuses(Alone, {"write": last_of(store, book, cell)}, parted_books, store, house, book, cell)
            return
        books = parted_books(store, house, book, cell)
        self.assertEqual({type(part) for part in (books, *books)}, {list})
        self.assertIn(tuple(map(tuple, books)), parted)

    def test_stores_at_the_limits(self):
        chooser = random.Random(142)
        kinds = []
        for store in big_stores():
            store = with_cells(store, chooser)
            books = chance_run(store, chooser)[1][-1]
            for house, cell in itertools.product(chooser.sample(range(16), 3), sorted(set(store.cells))):
                book = list(books[house])
                last = store.homes[last_of(store, book, cell)]
                told = all(last in brute.path(store, house, store.homes[write]) for write in writes_of_cell(store, cell))
                self.assertIs(alone(store, house, book, cell), told)
                kinds.append(told)
                if told:
                    self.refuses(Alone, {"write": last_of(store, book, cell)}, parted_books, store, house, book, cell)
                    self.assertIsNone(parting(store, books, cell))
                    continue
                found = parted_books(store, house, book, cell)
                self.assertEqual((found[house], faults(store, found)), (book, set()))
                self.assertGreater(len({last_of(store, other, cell) for other in found}), 1)
        self.assertEqual(set(kinds), {True, False})

    def test_one_house_and_one_writer(self):
        single = Store(Tree(1, []), [0, 0], cells=[0, 3])
        self.assertIs(alone(single, 0, (0, 1), 3), True)
        one = Store(line_tree(3), [2, 2, 0], cells=[0, 0, 1])
        for house, book in itertools.product(range(3), ([0, 1, 2], [2, 0, 1], [0, 2, 1])):
            self.assertIs(alone(one, house, book, 0), True)
            self.refuses(Alone, {"write": 1}, parted_books, one, house, book, 0)
            self.refuses(Alone, {"write": 2}, parted_books, one, house, tuple(book), 1)

    def test_the_book_is_kept(self):
        books = parted_books(STORE, 0, (0, 2, 1), 0)
        self.assertEqual((books[0], parting(STORE, books, 0) is None), ([0, 2, 1], False))
        self.assertEqual(copies(STORE, books)[2][0], 0)
        self.refuses(Alone, {"write": 0}, parted_books, STORE, 0, [1, 2, 0], 0)


class TestErrors(LooksleftCase):

    def calls(self, store, cell, answers=None):
        return [(is_answers, (store, cell, answers)), (verdict_of, (store, cell, answers)), (next_ask, (store, cell, answers))]

    def test_cells_then_cells_that_nobody_wrote(self):
        for cell in no_numbers() + [-1, 6]:
            for function, args in self.calls(STORE, cell):
                self.refuses_given(InvalidCell, cell, function, *args)
            for function in (alone, parted_books):
                self.refuses_given(InvalidCell, cell, function, STORE, 0, BOOK, cell)
        for cell in range(2, 6):
            for function, args in self.calls(STORE, cell) + self.calls(STORE, cell, []):
                self.refuses(NeverWritten, {"cell": cell}, function, *args)
            for function in (alone, parted_books):
                self.refuses(NeverWritten, {"cell": cell}, function, STORE, 0, BOOK, cell)
        empty = Store(line_tree(2), [])
        for function, args in self.calls(empty, 0) + [(alone, (empty, 0, [], 0)), (parted_books, (empty, 0, [], 0))]:
            self.refuses(NeverWritten, {"cell": 0}, function, *args)

    def test_houses_then_books(self):
        for function in (alone, parted_books):
            for house in no_numbers() + [-1, 3]:
                self.refuses_given(InvalidHouse, house, function, STORE, house, None, None)
            for book in odd_values() + [[0, 1], [0, 1, 2, 2], [0, 1, 1], [0, 1, 3], [0, True, 2], [False, 1, 2], [0, 1, "2"], "012", None,
                                        {0: 0, 1: 1, 2: 2}, [[0, 1, 2]], [0, 1, -1], (0, 1), STORE]:
                self.refuses_given(InvalidBook, book, function, STORE, 0, book, None)
            two = Store(line_tree(3), [0, 2, 0, 2])
            for book in ([2, 0, 1, 3], [0, 3, 1, 2], [3, 2, 1, 0], (1, 3, 2, 0)):
                self.refuses_given(InvalidBook, book, function, two, 1, book, 9)
            for book in ([1, 0, 3, 2], [0, 2, 1, 3], (1, 3, 0, 2)):
                self.refuses_given(InvalidCell, 9, function, two, 1, book, 9)


class TestArguments(LooksleftCase):

    def test_by_position_and_by_name(self):
        names = ["store", "cell"]
        self.assertIs(self.same(is_answers, names + ["value"], [STORE, 0, [(1, 1)]]), True)
        self.assertEqual(self.same(verdict_of, names + ["answers"], [STORE, 0, [(0, 0)]]), "alike")
        self.assertEqual(self.same(next_ask, names + ["answers"], [STORE, 0, [(1, 1)]]), 2)
        names = ["store", "house", "book", "cell"]
        self.assertIs(self.same(alone, names, [STORE, 0, [1, 2, 0], 0]), True)
        self.assertEqual(self.same(parted_books, names, [STORE, 0, BOOK, 0])[0], BOOK)

    def test_equal_answers_for_equal_arguments_and_new_lists(self):
        lists = []
        for search, store, cell in celled_cases(143, 40):
            for house, book in itertools.product(range(store.tree.houses), orders_of_all(store)[:4]):
                if not alone(store, house, book, cell):
                    lists.append((store, house, book, cell))
        first = [parted_books(*told) for told in lists]
        for (store, house, book, cell), answer in reversed(list(zip(lists, first))):
            other = Store(Tree(store.tree.houses, list(store.tree.roads)), list(store.homes), cells=list(store.cells))
            found = parted_books(other, house, list(book), cell)
            self.assertEqual(found, answer)
            found[0].clear()
            found.clear()
            self.assertEqual(parted_books(store, house, book, cell), answer)

    def test_a_list_that_changes(self):
        answers, book = [(1, 1)], [0, 2, 1]
        self.assertEqual(next_ask(STORE, 0, answers), 2)
        answers.append((2, 0))
        self.assertEqual([next_ask(STORE, 0, answers), verdict_of(STORE, 0, answers)], [None, "parted"])
        books = parted_books(STORE, 0, book, 0)
        book.sort()
        self.assertEqual(books[0], [0, 2, 1])
        self.assertIs(alone(STORE, 2, book, 0), True)


if __name__ == "__main__":
    unittest.main()
