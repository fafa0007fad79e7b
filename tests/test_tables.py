"""Point 133: what all copies can show of a cell when all is finished."""

import itertools
import random
import unittest

from looksleft.balance import copies, parting
from looksleft.errors import InvalidCell, InvalidTable, NeverWritten
from looksleft.stores import Store
from looksleft.tables import count_last_tables, is_last_table, table_books
from looksleft.trees import Tree
from tests import cases
from tests.test_balance import with_cells
from tests.test_books import faults, on_side
from tests.test_limits import big_stores
from tests.test_shown import last_of
from tests.tools import LooksleftCase, line_tree, no_numbers, odd_values, star_tree

STORE = Store(line_tree(3), [0, 2, 1], cells=[0, 0, 1])
TABLES = [[0, 0, 0], [1, 1, 1], [1, 0, 0], [1, 1, 0]]


def told_tables(search, store, cell):
    """All tables of a cell, by the copies behind all histories."""
    return {tuple(last_of(store, book, cell) for book in end) for end in search.last}


def writes_of_cell(store, cell):
    return [write for write, its_cell in enumerate(store.cells) if its_cell == cell]


def tables_by_words(store, cell):
    """All tables of a cell, by the words of the document."""
    writes = writes_of_cell(store, cell)
    last = [write for write in writes if not any(other > write and store.homes[other] == store.homes[write] for other in writes)]
    found = {(write,) * store.tree.houses for write in last}
    for road in store.tree.roads:
        for (u, v), first, second in itertools.product((road, road[::-1]), last, last):
            if on_side(store, u, v, store.homes[first]) and on_side(store, v, u, store.homes[second]):
                found.add(tuple(second if on_side(store, u, v, house) else first for house in range(store.tree.houses)))
    return found


def celled_cases(seed, many):
    """Tuples (search, store, cell), the store with cells of many kinds, the cell one that somebody wrote."""
    chooser = random.Random(seed)
    for _ in range(many):
        search = chooser.choice(cases.searches() + cases.greater_searches())
        store = with_cells(search.store, chooser)
        for cell in sorted(set(store.cells)):
            yield search, store, cell


class TestTables(LooksleftCase):

    def test_all_lists_of_writes_against_all_histories(self):
        sizes = set()
        for search, store, cell in celled_cases(133, 120):
            right = told_tables(search, store, cell)
            self.assertEqual(right, tables_by_words(store, cell))
            for table in itertools.product(range(len(store)), repeat=store.tree.houses):
                self.assertIs(is_last_table(store, cell, list(table)), table in right)
            self.assertEqual(count_last_tables(store, cell), len(right))
            sizes.add((len({store.homes[write] for write in writes_of_cell(store, cell)}), len(right) > 1))
        self.assertLessEqual({(1, False), (2, True), (3, True), (4, True)}, sizes)

    def test_books_of_a_history_for_each_table(self):
        for search, store, cell in celled_cases(134, 120):
            for table in sorted(told_tables(search, store, cell)):
                books = table_books(store, cell, list(table))
                self.assertEqual({type(part) for part in (books, *books)}, {list})
                self.assertIn(tuple(map(tuple, books)), search.last)
                self.assertEqual([last_of(store, book, cell) for book in books], list(table))
                self.assertEqual([copy[cell] for copy in copies(store, books)], list(table))
                self.assertIs(parting(store, books, cell) is None, len(set(table)) == 1)

    def test_one_home_two_homes_and_more(self):
        home = Store(star_tree(4), [1, 1, 1], cells=[0, 0, 2])
        self.assertEqual([count_last_tables(home, 0), count_last_tables(home, 2)], [1, 1])
        self.assertEqual([is_last_table(home, 0, [write] * 4) for write in range(3)], [False, True, False])
        self.assertEqual([copy[0] for copy in copies(home, table_books(home, 0, (1, 1, 1, 1)))], [1] * 4)
        self.assertEqual(count_last_tables(STORE, 0), 4)
        self.assertTrue(all(is_last_table(STORE, 0, table) and is_last_table(STORE, 0, tuple(table)) for table in TABLES))
        three = Store(star_tree(4), [1, 2, 3])
        self.assertEqual(count_last_tables(three, 0), 3 + 3 * 2)
        self.assertEqual([is_last_table(three, 0, table) for table in ([1, 1, 0, 1], [0, 0, 1, 0], [1, 2, 1, 1], [2, 2, 2, 1], [0, 1, 0, 0])],
                         [True, False, False, True, True])
        single = Store(Tree(1, []), [0, 0], cells=[3, 3])
        self.assertEqual([count_last_tables(single, 3), table_books(single, 3, [1])], [1, [[0, 1]]])

    def test_values_that_are_no_tables(self):
        for value in odd_values() + [[0, 0], [0, 0, 0, 0], [2, 2, 2], [0, 0, 2], [0, 1, 1], [0, 1, 0], [0, False, 0], [True, 0, 0], [True] * 3,
                                     [False] * 3, [None] * 3, ["0"] * 3, "000", {0: 0, 1: 0, 2: 0}, [[0]] * 3, [0, 0, 3], [0, 0, -1], 0, STORE]:
            self.assertIs(is_last_table(STORE, 0, value), False, value)
        for value in odd_values():
            self.assertIs(is_last_table(STORE, 1, value), False, value)
            self.assertIs(is_last_table(Store(Tree(1, []), [0]), 0, value), value in ([0], (0,)) and type(value[0]) is int, value)

    def test_stores_at_the_limits(self):
        chooser = random.Random(135)
        for store in big_stores():
            store = Store(store.tree, store.homes, cells=[chooser.choice([0, 0, 0, 4]) for _ in store.homes])
            for cell in sorted(set(store.cells)):
                right = tables_by_words(store, cell)
                self.assertEqual(count_last_tables(store, cell), len(right))
                for table in chooser.sample(sorted(right), min(len(right), 12)):
                    self.check_great_table(store, cell, table, right, chooser)

    def check_great_table(self, store, cell, table, right, chooser):
        self.assertIs(is_last_table(store, cell, table), True)
        at = chooser.randrange(16)
        bent = table[:at] + (chooser.choice(writes_of_cell(store, cell)),) + table[at + 1:]
        self.assertIs(is_last_table(store, cell, list(bent)), bent in right)
        books = table_books(store, cell, table)
        self.assertEqual(faults(store, books), set())
        self.assertEqual([sorted(book) for book in books], [list(range(12))] * 16)
        self.assertEqual([last_of(store, book, cell) for book in books], list(table))


class TestErrors(LooksleftCase):

    def calls(self, store, cell, table=None):
        return [(is_last_table, (store, cell, table)), (count_last_tables, (store, cell)), (table_books, (store, cell, table))]

    def test_cells_then_cells_that_nobody_wrote_then_tables(self):
        for cell in no_numbers() + [-1, 6, 7]:
            for function, args in self.calls(STORE, cell):
                self.refuses_given(InvalidCell, cell, function, *args)
        for cell in range(2, 6):
            for function, args in self.calls(STORE, cell) + self.calls(STORE, cell, TABLES[0]):
                self.refuses(NeverWritten, {"cell": cell}, function, *args)
        for function, args in self.calls(Store(line_tree(2), []), 0):
            self.refuses(NeverWritten, {"cell": 0}, function, *args)
        for table in odd_values() + [[0, 1, 1], [0, 0], [0, 0, 0, 0], [2, 2, 2], [True] * 3, [False] * 3, None]:
            self.refuses_given(InvalidTable, table, table_books, STORE, 0, table)


class TestArguments(LooksleftCase):

    def test_by_position_and_by_name(self):
        self.assertIs(self.same(is_last_table, ["store", "cell", "value"], [STORE, 0, [1, 1, 0]]), True)
        self.assertEqual(self.same(count_last_tables, ["store", "cell"], [STORE, 0]), 4)
        books = self.same(table_books, ["store", "cell", "table"], [STORE, 0, [1, 0, 0]])
        self.assertEqual([copy[0] for copy in copies(STORE, books)], [1, 0, 0])

    def test_equal_answers_for_equal_arguments_and_new_lists(self):
        lists = [(store, cell, table) for search, store, cell in celled_cases(136, 25)
                 for table in sorted(told_tables(search, store, cell))[:3]]
        first = [table_books(*told) for told in lists]
        for (store, cell, table), answer in reversed(list(zip(lists, first))):
            other = Store(Tree(store.tree.houses, list(store.tree.roads)), list(store.homes), cells=list(store.cells))
            found = table_books(other, cell, list(table))
            self.assertEqual(found, answer)
            for book in found:
                book.clear()
            self.assertEqual(table_books(store, cell, table), answer)

    def test_a_list_that_changes(self):
        table = [1, 0, 0]
        self.assertIs(is_last_table(STORE, 0, table), True)
        books = table_books(STORE, 0, table)
        table[2] = 1
        self.refuses_given(InvalidTable, table, table_books, STORE, 0, table)
        self.assertEqual(books, table_books(STORE, 0, [1, 0, 0]))


if __name__ == "__main__":
    unittest.main()
