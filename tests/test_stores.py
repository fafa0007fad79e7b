"""Points 31 to 33: stores."""

import unittest

from looksleft.errors import InvalidCell, InvalidCells, InvalidHomes, InvalidHouse, InvalidLine
from looksleft.stores import Store, made_in, read_store, written
from looksleft.trees import Tree
from tests.tools import LooksleftCase, line_tree, odd_values, star_tree


def stores():
    return [Store(Tree(1, []), []), Store(line_tree(3), []), Store(line_tree(3), [2, 0, 2], cells=[0, 0, 3]),
            Store(star_tree(16), list(range(4, 16))), Store(line_tree(16), [15] * 12, cells=[5, 4, 3, 2, 1, 0] * 2),
            Store(line_tree(2), (0, 1, 0), cells=(0, 0, 3)), Store(Tree(1, []), [0, 0], cells=[1, 0])]


class TestStore(LooksleftCase):

    def test_attributes(self):
        tree = line_tree(3)
        store = Store(tree, [2, 0, 2], cells=[0, 0, 3])
        self.assertTrue(store.tree == tree)
        self.assertEqual((store.homes, store.cells, len(store)), ((2, 0, 2), (0, 0, 3), 3))
        self.assertEqual((type(store.homes), type(store.cells)), (tuple, tuple))
        named = Store(cells=(0, 0, 3), homes=(2, 0, 2), tree=tree)
        self.assertTrue(named == store)

    def test_cells_left_out(self):
        tree = line_tree(3)
        self.assertEqual(Store(tree, [2, 0, 2]).cells, (0, 0, 0))
        self.assertEqual(Store(tree, [2, 0, 2], cells=None).cells, (0, 0, 0))
        self.assertTrue(Store(tree, [2, 0, 2]) == Store(tree, [2, 0, 2], cells=[0, 0, 0]))
        with self.assertRaises(TypeError):
            Store(tree, [2, 0, 2], [0, 0, 0])

    def test_no_writes_and_twelve(self):
        store = Store(line_tree(3), [])
        self.assertEqual((len(store), store.homes, store.cells), (0, (), ()))
        self.assertEqual(Store(line_tree(3), (), cells=()).cells, ())
        store = Store(star_tree(16), [15] * 12)
        self.assertEqual((len(store), store.cells), (12, (0,) * 12))

    def test_invalid_homes(self):
        tree = line_tree(3)
        for value in (None, True, 0, "0", "", {}, {"0": 0}, [3], [-1], [0, 3], [True], [0, False], [None], ["0"],
                      [[0]], [(0,)], (0, 3), [0] * 13, (0,) * 13, [10 ** 19], tree, Store(tree, []), [tree]):
            self.refuses_given(InvalidHomes, value, Store, tree, value)
            self.refuses_given(InvalidHomes, value, Store, tree, value, cells="later")

    def test_invalid_cells(self):
        tree = line_tree(3)
        for value in (True, False, 0, "00", "", {}, [], [0], [0, 0, 0], [0, 6], [-1, 0], [0, True], [False, 0],
                      [None, 0], [0, None], ["0", 0], [[0], 0], (0,), (0, 6), [0, 10 ** 19], tree, [tree, tree]):
            self.refuses_given(InvalidCells, value, Store, tree, [0, 1], cells=value)
        many = [0] * 13
        self.refuses_given(InvalidHomes, many, Store, tree, many, cells=many)
        cells = [0]
        self.refuses_given(InvalidCells, cells, Store, tree, [], cells=cells)

    def test_equal(self):
        tree = line_tree(3)
        store = Store(tree, [2, 0], cells=[0, 1])
        self.assertTrue(store == Store(Tree(3, ((0, 1), (1, 2))), (2, 0), cells=(0, 1)))
        self.assertFalse(store != Store(tree, [2, 0], cells=[0, 1]))
        for other in (Store(tree, [2, 0]), Store(tree, [2, 1], cells=[0, 1]), Store(tree, [2], cells=[0]),
                      Store(Tree(3, [(0, 1), (0, 2)]), [2, 0], cells=[0, 1]), Store(tree, [0, 2], cells=[0, 1])):
            self.assertFalse(store == other)
            self.assertTrue(store != other)
        for value in odd_values():
            self.assertFalse(store == value)

    def test_lists_are_not_kept(self):
        homes, cells = [2, 0], [0, 1]
        store = Store(line_tree(3), homes, cells=cells)
        homes.append(1)
        homes[0] = 1
        cells.clear()
        self.assertEqual((store.homes, store.cells, store.line()), ((2, 0), (0, 1), "3: 0-1 1-2 / 2.0 0.1"))


class TestWrites(LooksleftCase):

    def test_made_in(self):
        store = Store(line_tree(3), [2, 0, 2, 2])
        self.assertEqual([made_in(store, house) for house in range(3)], [[1], [], [0, 2, 3]])
        self.assertEqual(made_in(Store(Tree(1, []), []), 0), [])
        for value in (-1, 3, True, False, None, "0", [], [0], (0,), {}, store, store.tree):
            self.refuses_given(InvalidHouse, value, made_in, store, value)

    def test_written(self):
        store = Store(line_tree(3), [2, 0, 2, 2], cells=[5, 0, 5, 1])
        self.assertEqual([written(store, cell) for cell in range(6)], [[1], [3], [], [], [], [0, 2]])
        self.assertEqual(written(Store(line_tree(3), []), 0), [])
        for value in (-1, 6, 10 ** 19, True, False, None, "0", [], [0], (0,), {}, store):
            self.refuses_given(InvalidCell, value, written, store, value)

    def test_by_position_and_by_name(self):
        store = Store(line_tree(3), [2, 0, 2], cells=[0, 0, 3])
        self.assertEqual(self.same(made_in, ["store", "house"], [store, 2]), [0, 2])
        self.assertEqual(self.same(written, ["store", "cell"], [store, 0]), [0, 1])
        self.assertTrue(self.same(read_store, ["line"], ["3: 0-1 1-2 / 2.0 0.0 2.3"]) == store)
        self.assertTrue(self.same(Store, ["tree", "homes"], [store.tree, [2, 0, 2]]) == Store(store.tree, (2, 0, 2)))

    def test_changing_an_answer_changes_no_later_one(self):
        store = Store(line_tree(3), [2, 0, 2], cells=[0, 0, 3])
        made_in(store, 2).clear()
        written(store, 0).append(7)
        self.assertEqual((made_in(store, 2), written(store, 0), store.homes), ([0, 2], [0, 1], (2, 0, 2)))


class TestLines(LooksleftCase):

    def test_lines(self):
        self.assertEqual([store.line() for store in stores()],
                         ["1: /", "3: 0-1 1-2 /", "3: 0-1 1-2 / 2.0 0.0 2.3",
                          star_tree(16).line() + " / 4.0 5.0 6.0 7.0 8.0 9.0 10.0 11.0 12.0 13.0 14.0 15.0",
                          line_tree(16).line() + " /" + " 15.5 15.4 15.3 15.2 15.1 15.0" * 2,
                          "2: 0-1 / 0.0 1.0 0.3", "1: / 0.1 0.0"])

    def test_read_back(self):
        for store in stores():
            again = read_store(store.line())
            self.assertTrue(again == store)
            self.assertEqual((again.tree.roads, again.homes, again.cells), (store.tree.roads, store.homes, store.cells))

    def test_wrong_lines(self):
        wrong = ["", "/", " /", "1:", "1:/", "1:  /", "1: / ", " 1: /", "1: //", "1: / /", "1: /0.0", "1: /  0.0",
                 "1: / 0.0 ", "1: / 0.0  0.0", "1: / 00.0", "1: / 0.00", "1: / +0.0", "1: / 0.+0", "1: / -0.0", "1: / 1.0",
                 "1: / 0.6", "1: / 0.-1", "1: / 0", "1: / 0.", "1: / .0", "1: / 0.0.0", "1: / 0,0", "1: / a.b",
                 "1: / 0. 0", "1: / 0 .0", "2: 0-1", "2: 1-0 /", "2: 0-1 / 2.0", "2: / 0.0", "3: 0-1 0-1 /",
                 "4: 0-1 0-2 1-2 / 0.0", "2: 0-01 /", "02: 0-1 /", "2:  0-1 /", "2: 0-1 / 0.0\n", "0: /", "17: /",
                 "1: /" + " 0.0" * 13, "1: / 99999999999999999999.0", "1: / 0.99999999999999999999", "1: / 0.0 /"]
        for line in wrong:
            self.refuses_given(InvalidLine, line, read_store, line)
        for value in odd_values():
            if value != "1: /":
                self.refuses_given(InvalidLine, value, read_store, value)

    def test_each_bent_line_is_refused_or_read_as_itself(self):
        told = "3: 0-1 1-2 / 2.0 0.0 2.3"
        for at in range(len(told) + 1):
            for bent in [told[:at] + told[at + 1:]] + [told[:at] + mark + told[at:] for mark in " 0123-+:./_"]:
                try:
                    self.assertEqual(read_store(bent).line(), bent)
                except InvalidLine as error:
                    self.assertIs(error.given, bent)


if __name__ == "__main__":
    unittest.main()
