"""Points 131 and 132: the last lines of books, exchanges along roads, and what all copies show."""

import random
import unittest

from looksleft.balance import copies, exchanges, last_lot, own_lines, parting
from looksleft.books import script_of
from looksleft.errors import Faulty, InvalidBooks, InvalidCell, InvalidCount, InvalidHouse, NeverWritten
from looksleft.running import run
from looksleft.stores import Store
from looksleft.trees import Tree
from tests import brute, cases
from tests.test_books import faults, on_side, wrong_books
from tests.test_shown import last_of
from tests.tools import LooksleftCase, line_tree, no_numbers, star_tree

STORE = Store(line_tree(3), [0, 2, 1], cells=[0, 0, 1])
BOOKS = [[0, 2, 1], [2, 0, 1], [1, 2, 0]]
FAULTY = [[0, 1, 2], [1, 0, 2], [0, 1, 2]]


def told_last(store, book, count, cell):
    """The last lines of a book, by the words of the document, read from its end."""
    found = []
    for write in reversed(book):
        if len(found) < count and (cell is None or store.cells[write] == cell):
            found.append(write)
    return found


def told_exchange(store, books, count, cell, u, v):
    """The tuple of a road, by the words of the document."""
    here, there = set(told_last(store, books[u], count, cell)), set(told_last(store, books[v], count, cell))
    return (u, v, tuple(sorted(here - there)), tuple(sorted(there - here)))


def told_parting(store, books, cell):
    """All roads with one write of the cell on u's side and another one on v's side."""
    shows = [last_of(store, book, cell) for book in books]
    found = []
    for u, v in store.tree.roads:
        sides = [{shows[house] for house in range(store.tree.houses) if on_side(store, u, v, house) is near} for near in (True, False)]
        if len(sides[0]) == len(sides[1]) == 1 and sides[0] != sides[1]:
            found.append((u, v))
    return found


def with_cells(store, chooser):
    """The store with other cells."""
    return Store(store.tree, store.homes, cells=[chooser.choice([0, 0, 0, 3, 5]) for _ in store.homes])


def ended_cases(seed, many):
    """Tuples (store, books) with cells of many kinds and books of a history."""
    chooser = random.Random(seed)
    for _ in range(many):
        search = chooser.choice(cases.searches() + cases.greater_searches())
        yield with_cells(search.store, chooser), [list(book) for book in chooser.choice(search.last)]


def all_counts(store):
    """Each cell and None with each count."""
    return [(cell, count) for cell in (None, *range(6)) for count in range(1 + sum(cell in (None, own) for own in store.cells))]


class TestLastLines(LooksleftCase):

    def test_by_words(self):
        for store, books in ended_cases(131, 150):
            for cell, count in all_counts(store):
                for house in range(store.tree.houses):
                    expected = sorted(told_last(store, books[house], count, cell))
                    self.assertEqual(last_lot(store, books, house, count, cell=cell), expected)
                    self.assertEqual(len(expected), count)

    def test_own_lines_and_exchanges(self):
        kinds = set()
        for store, books in ended_cases(132, 400):
            for cell, count in all_counts(store):
                own = sum(store.homes[write] == house for house in range(store.tree.houses)
                          for write in told_last(store, books[house], count, cell))
                found = exchanges(store, books, count, cell=cell)
                self.assertEqual(own_lines(store, books, count, cell=cell), own)
                self.assertEqual(found, [told_exchange(store, books, count, cell, u, v) for u, v in store.tree.roads])
                self.assertEqual([len(gone) for _, _, gone, _ in found], [len(come) for _, _, _, come in found])
                self.assertEqual(sum(len(gone) for _, _, gone, _ in found), count - own)
                for item in found:
                    self.assertEqual([type(part) for part in (item, *item)], [tuple, int, int, tuple, tuple])
                kinds.add((cell is None, min(count - own, 2)))
        self.assertEqual(len(kinds), 6)

    def test_one_house_and_no_writes(self):
        home = Store(Tree(1, []), [0, 0, 0], cells=[0, 4, 0])
        books = [[0, 1, 2]]
        self.assertEqual([last_lot(home, books, 0, count) for count in range(4)], [[], [2], [1, 2], [0, 1, 2]])
        self.assertEqual([last_lot(home, books, 0, count, cell=0) for count in range(3)], [[], [2], [0, 2]])
        self.assertEqual([own_lines(home, books, 2), exchanges(home, books, 2)], [2, []])
        empty = Store(line_tree(2), [])
        self.assertEqual([last_lot(empty, [[], []], 1, 0), own_lines(empty, [[], []], 0), exchanges(empty, [[], []], 0)], [[], 0, [(0, 1, (), ())]])

    def test_cells_that_nobody_wrote(self):
        for cell in range(2, 6):
            self.assertEqual(last_lot(STORE, BOOKS, 1, 0, cell=cell), [])
            self.assertEqual(own_lines(STORE, BOOKS, 0, cell=cell), 0)
            self.assertEqual(exchanges(STORE, BOOKS, 0, cell=cell), [(0, 1, (), ()), (1, 2, (), ())])
            self.refuses_given(InvalidCount, 1, last_lot, STORE, BOOKS, 1, 1, cell=cell)


class TestCopies(LooksleftCase):

    def test_by_words_and_as_a_running_shows(self):
        for store, books in ended_cases(133, 250):
            told = copies(store, books)
            self.assertEqual(told, [tuple(last_of(store, book, cell) for cell in range(6)) for book in books])
            running = run(store, script_of(store, books))
            self.assertEqual(told, [running.shows(house) for house in range(store.tree.houses)])
            self.assertEqual({type(item) for item in told}, {tuple})

    def test_parting(self):
        kinds = []
        for store, books in ended_cases(134, 500):
            for cell in range(6):
                if cell not in store.cells:
                    self.refuses(NeverWritten, {"cell": cell}, parting, store, books, cell)
                    continue
                roads = told_parting(store, books, cell)
                alike = len({last_of(store, book, cell) for book in books}) == 1
                # Just one road, if the copies are not alike; and alike exactly if some copy shows a write of its own house.
                self.assertEqual(len(roads), 0 if alike else 1)
                shows_own = any(store.homes[last_of(store, book, cell)] == house for house, book in enumerate(books))
                self.assertIs(alike, shows_own)
                self.assertEqual(parting(store, books, cell), None if alike else roads[0])
                kinds.append(alike)
        self.assertGreater(min(kinds.count(True), kinds.count(False)), 100)


class TestErrors(LooksleftCase):

    def calls(self, store, books, house=None, count=None, cell="cell"):
        """All functions; the cell is a wrong one unless another one is told."""
        return [(last_lot, (store, books, house, count), {"cell": cell}), (own_lines, (store, books, count), {"cell": cell}),
                (exchanges, (store, books, count), {"cell": cell}), (parting, (store, books, cell), {}), (copies, (store, books), {})]

    def test_books_first(self):
        for wrong in wrong_books():
            for function, args, more in self.calls(STORE, wrong):
                self.refuses_given(InvalidBooks, wrong, function, *args, **more)

    def test_faults_next(self):
        for store, books in ((STORE, FAULTY), (Store(star_tree(4), [0, 1, 0]), [[2, 1, 0]] * 4)):
            for function, args, more in self.calls(store, books):
                with self.assertRaises(Faulty) as caught:
                    function(*args, **more)
                self.assertEqual(list(vars(caught.exception)), ["fault"])
                self.assertIn(caught.exception.fault, faults(store, books))

    def test_houses_then_cells_then_counts(self):
        for house in no_numbers() + [-1, 3]:
            self.refuses_given(InvalidHouse, house, last_lot, STORE, BOOKS, house, [house], cell="cell")
        for cell in no_numbers() + [-1, 6, 7]:
            for function, args, more in self.calls(STORE, BOOKS, 0, None, cell)[:4]:
                if cell is not None or function is parting:
                    self.refuses_given(InvalidCell, cell, function, *args, **more)
        for count in no_numbers() + [-1, 4, 5]:
            for function, args, more in self.calls(STORE, BOOKS, 0, count, None)[:3]:
                self.refuses_given(InvalidCount, count, function, *args, **more)
        for count in no_numbers() + [-1, 3]:
            for function, args, more in self.calls(STORE, BOOKS, 0, count, 0)[:3]:
                self.refuses_given(InvalidCount, count, function, *args, **more)

    def test_never_written(self):
        for cell in range(2, 6):
            self.refuses(NeverWritten, {"cell": cell}, parting, STORE, BOOKS, cell)
        self.refuses(NeverWritten, {"cell": 0}, parting, Store(line_tree(2), []), [[], []], 0)


class TestArguments(LooksleftCase):

    def test_by_position_and_by_name(self):
        names = ["store", "books"]
        self.assertEqual(self.same(last_lot, names + ["house", "count"], [STORE, BOOKS, 0, 2]), [1, 2])
        self.assertEqual(self.same(own_lines, names + ["count"], [STORE, BOOKS, 3]), 3)
        self.assertEqual(self.same(exchanges, names + ["count"], [STORE, BOOKS, 2]), [(0, 1, (2,), (0,)), (1, 2, (1,), (2,))])
        self.assertEqual(self.same(copies, names, [STORE, BOOKS])[0], (1, 2, None, None, None, None))
        self.assertEqual(self.same(parting, names + ["cell"], [STORE, BOOKS, 0]), (1, 2))
        self.assertEqual(last_lot(cell=0, count=1, house=2, books=BOOKS, store=STORE), [0])
        for function, args in ((last_lot, (0, 2)), (own_lines, (2,)), (exchanges, (2,))):
            with self.assertRaises(TypeError):
                function(STORE, BOOKS, *args, 0)

    def test_tuples_for_lists_and_answers_that_are_new(self):
        for store, books in ended_cases(135, 60):
            other = Store(Tree(store.tree.houses, list(store.tree.roads)), list(store.homes), cells=list(store.cells))
            told = tuple(tuple(book) for book in books)
            for cell, count in all_counts(store)[:6]:
                for function, args in ((last_lot, (0, count)), (own_lines, (count,)), (exchanges, (count,))):
                    expected = function(store, books, *args, cell=cell)
                    found = function(store, books, *args, cell=cell)
                    if isinstance(found, list):
                        found.clear()
                    self.assertEqual(function(other, told, *args, cell=cell), expected)
            found = copies(store, books)
            expected = list(found)
            found.clear()
            self.assertEqual(copies(other, told), expected)

    def test_a_list_that_changes(self):
        books = [list(book) for book in BOOKS]
        self.assertEqual(parting(STORE, books, 0), (1, 2))
        books[2] = [2, 1, 0]
        self.assertEqual(last_lot(STORE, books, 2, 2), [0, 1])
        self.assertEqual(parting(STORE, books, 0), (1, 2))
        books[2].sort(reverse=True)
        self.assertEqual((books[2], copies(STORE, books)[2][:2]), ([2, 1, 0], (0, 2)))
        books[0] = [1, 0, 2]
        self.assertRaises(Faulty, copies, STORE, books)

    def test_the_main_statement_of_balance(self):
        chooser = random.Random(136)
        for _ in range(15):
            store, _ = cases.middle_case(chooser)
            store = with_cells(store, chooser)
            books = brute.states_of(store, brute.chance_script(store, chooser))[-1]
            for cell, count in all_counts(store):
                gone = sum(len(item[2]) for item in exchanges(store, books, count, cell=cell))
                self.assertEqual(gone, count - own_lines(store, books, count, cell=cell))


if __name__ == "__main__":
    unittest.main()
