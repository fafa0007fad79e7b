"""Points 51 and 52: looks and lists of looks."""

import unittest

from looksleft.errors import InvalidFirsts, InvalidHouse, InvalidLooks, InvalidLots, InvalidMoment
from looksleft.histories import history, is_fitting, is_history
from looksleft.looks import Look, borders, count_look, is_looks
from looksleft.pictures import arrows, is_picture, looks_fit, picture
from looksleft.stores import Store
from looksleft.trees import Tree
from tests.tools import LooksleftCase, line_tree, odd_values, star_tree

STORE = Store(line_tree(3), [0, 2, 0])


def wrong_looks():
    """Values that are no lists of looks of STORE."""
    look = Look(1, [[0]])
    return [None, True, 0, "", "look", {}, {"look": look}, look, STORE, [None], [True], [[look]], [look, None],
            [look] * 10, (look,) * 10, [Look(3, [])], [Look(0, [[3]])], [look, Look(0, [[0], [1, 7]])],
            [Look(0, [[10 ** 19]])], [Look(10 ** 19, [])], [(1, [[0]], None)], [STORE], [STORE.tree], [[0]], ["look"]]


class TestLook(LooksleftCase):

    def test_attributes(self):
        for look in (Look(1, [[2], [1, 0]], moment=5), Look(1, ((2,), (1, 0)), moment=5),
                     Look(house=1, lots=[(2,), [0, 1]], moment=5), Look(moment=5, lots=((2,), [1, 0]), house=1)):
            self.assertEqual((look.house, look.lots, look.moment), (1, ((2,), (0, 1)), 5))
            self.assertEqual({type(lot) for lot in look.lots} | {type(look.lots)}, {tuple})
            self.assertEqual((look.come, type(look.come), len(look)), ((0, 1, 2), tuple, 2))
        bare = Look(0, [])
        self.assertEqual((bare.house, bare.lots, bare.moment, bare.come, len(bare)), (0, (), None, (), 0))
        with self.assertRaises(TypeError):
            Look(1, [[2]], 5)

    def test_looks_of_every_kind(self):
        for house in (0, 15, 16, 10 ** 19):
            for lots in ([], [[0]], [[5, 3, 4], [10 ** 19], [0]], [[write] for write in range(12)], [list(range(12))]):
                for moment in (None, 0, 1, -1, 10 ** 19, -(10 ** 19)):
                    look = Look(house, lots, moment=moment)
                    self.assertEqual((look.house, look.moment), (house, moment))
                    self.assertEqual(look.lots, tuple(tuple(sorted(lot)) for lot in lots))
                    self.assertEqual(look.come, tuple(sorted(write for lot in lots for write in lot)))
                    self.assertEqual(len(look), len(lots))

    def test_invalid_house(self):
        for value in (-1, -(10 ** 19), True, False, None, "0", [], [0], (0,), {}, STORE, Look(0, [])):
            self.refuses_given(InvalidHouse, value, Look, value, [[0]])
            self.refuses_given(InvalidHouse, value, Look, value, None, moment="later")

    def test_invalid_lots(self):
        for value in (None, True, 0, "", "01", {}, {"0": [0]}, [[]], [[0], []], [0], [0, 1], [(0), (1)], [[0], 1], [[0, 0]],
                      [[0], [0]], [[0, 1], [2, 1]], [[-1]], [[True]], [[0, False]], [[None]], [["0"]], ["0"], [[[0]]], [{}],
                      [{"0": 0}], (0,), ((),), [[0], None], [[0], "1"], STORE, [STORE], [[STORE]], Look(0, [[0]])):
            self.refuses_given(InvalidLots, value, Look, 1, value)
            self.refuses_given(InvalidLots, value, Look, 1, value, moment="later")

    def test_invalid_moment(self):
        for value in (True, False, "", "5", [], [5], (), (5,), {}, STORE, Look(0, [])):
            self.refuses_given(InvalidMoment, value, Look, 1, [[0]], moment=value)
            self.refuses_given(InvalidMoment, value, count_look, STORE, 1, [0, 0, 0], moment=value)

    def test_equal(self):
        look = Look(1, [[2], [1, 0]], moment=5)
        self.assertTrue(look == Look(1, ((2,), (0, 1)), moment=5))
        self.assertFalse(look != Look(1, [(2,), [0, 1]], moment=5))
        for other in (Look(0, [[2], [1, 0]], moment=5), Look(1, [[2], [1, 0]], moment=6), Look(1, [[2], [1, 0]]),
                      Look(1, [[1, 0], [2]], moment=5), Look(1, [[0, 1, 2]], moment=5), Look(1, [[2]], moment=5),
                      Look(1, [[2], [1], [0]], moment=5), Look(1, [], moment=5)):
            self.assertFalse(look == other)
            self.assertTrue(look != other)
        for value in odd_values() + [look.lots, 5]:
            self.assertFalse(look == value)
        self.assertFalse(Look(0, [], moment=0) == Look(0, []))

    def test_in(self):
        look = Look(7, [[2], [4, 0]], moment=1)
        for value in odd_values() + [4, 5]:
            self.assertIs(value in look, type(value) is int and value in (0, 2, 4), value)
        self.assertFalse(False in look)
        self.assertFalse(True in Look(0, [[1]]))
        self.assertFalse((2,) in look)
        self.assertFalse(0 in Look(0, []))

    def test_walking(self):
        look = Look(1, [[2], [1, 0], [5, 3]])
        lots = [(2,), (0, 1), (3, 5)]
        self.assertEqual((list(look), tuple(look), [lot for lot in look]), (lots, tuple(lots), lots))
        self.assertEqual([(first, second) for first in look for second in look],
                         [(first, second) for first in lots for second in lots])
        walk, other = iter(look), iter(look)
        self.assertEqual((next(walk), next(walk), next(other), next(walk)), ((2,), (0, 1), (2,), (3, 5)))
        self.assertEqual((list(Look(1, [])), sum(len(lot) for lot in look)), ([], 5))

    def test_borders(self):
        self.assertEqual(self.same(borders, ["look"], [Look(1, [[2], [1, 0]])]), ((2,), (0, 1, 2)))
        self.assertEqual(borders(Look(1, [])), ((),))
        self.assertEqual(borders(Look(1, [], moment=3)), ((),))
        self.assertEqual(borders(Look(1, [[5, 3]])), ((3, 5),))
        told = borders(Look(0, [[write] for write in (4, 0, 3, 1)]))
        self.assertEqual(told, ((4,), (0, 4), (0, 3, 4), (0, 1, 3, 4)))
        self.assertEqual((type(told), {type(ahead) for ahead in told}), (tuple, {tuple}))

    def test_the_list_of_lots_is_not_kept(self):
        lots = [[2], [1, 0]]
        look = Look(1, lots)
        lots[0].append(7)
        lots.append([9])
        self.assertEqual((look.lots, look.come, len(look), borders(look)), (((2,), (0, 1)), (0, 1, 2), 2, ((2,), (0, 1, 2))))


class TestListsOfLooks(LooksleftCase):

    def test_is_looks(self):
        look = Look(1, [[0], [1, 2]], moment=5)
        for value in ([], (), [look], (look,), [look, look], [look] * 9, (Look(2, []),) * 9, [Look(0, [[2]]), look, Look(0, [])]):
            self.assertIs(is_looks(STORE, value), True)
        for value in wrong_looks():
            self.assertIs(is_looks(STORE, value), False, value)
        for value in odd_values():
            self.assertIn(is_looks(STORE, value), (True, False))
        self.assertIs(self.same(is_looks, ["store", "value"], [STORE, [look]]), True)

    def test_houses_and_writes_of_the_store(self):
        for house in range(5):
            for write in range(5):
                self.assertIs(is_looks(STORE, [Look(house, [[write]])]), house < 3 and write < 3)
        empty = Store(Tree(1, []), [])
        self.assertEqual([is_looks(empty, [Look(0, [])]), is_looks(empty, [Look(0, [[0]])]), is_looks(empty, [Look(1, [])])],
                         [True, False, False])

    def test_invalid_looks(self):
        for value in wrong_looks():
            for function in (picture, looks_fit, history):
                self.refuses_given(InvalidLooks, value, function, STORE, value)
            for function in (arrows, is_picture, is_fitting, is_history):
                self.refuses_given(InvalidLooks, value, function, STORE, value, "later")

    def test_one_tree_and_one_look_in_two_stores(self):
        tree, look = line_tree(3), Look(1, [[0, 1]], moment=2)
        first, second = Store(tree, [0, 2, 0]), Store(tree, [2, 2])
        self.assertEqual([is_looks(first, [look]), is_looks(second, [look, look]), is_looks(Store(tree, [1]), [look])],
                         [True, True, False])
        self.assertEqual([picture(first, [look]), picture(second, [look])], [None, None])
        self.assertTrue(first.tree == second.tree)
        self.assertEqual((look.lots, look.moment, tree.roads), (((0, 1),), 2, ((0, 1), (1, 2))))

    def test_a_list_that_changes_between_calls(self):
        looks = [Look(0, [[0]], moment=2)]
        self.assertEqual([is_looks(STORE, looks), looks_fit(STORE, looks)], [True, True])
        looks.append(Look(0, [], moment=2))
        self.assertEqual([is_looks(STORE, looks), looks_fit(STORE, looks)], [True, False])
        looks[1] = Look(5, [])
        self.assertIs(is_looks(STORE, looks), False)
        looks.pop()
        self.assertEqual([is_looks(STORE, looks), looks_fit(STORE, looks)], [True, True])


class TestCountLook(LooksleftCase):

    def test_count_look(self):
        store = Store(star_tree(4), [1, 2, 1, 3, 1])
        for firsts, come in (([0, 0, 0, 0], ()), ([0, 2, 0, 1], (0, 2, 3)), ((0, 3, 1, 1), (0, 1, 2, 3, 4)), ([0, 0, 1, 0], (1,))):
            for moment in (None, -3, 0):
                look = count_look(store, 2, firsts, moment=moment)
                self.assertEqual((look.house, look.come, look.moment), (2, come, moment))
                self.assertEqual(look.lots, (come,) if come else ())
        self.assertEqual(count_look(store, 0, [0, 1, 0, 0]).moment, None)
        self.assertTrue(self.same(count_look, ["store", "house", "firsts"], [store, 3, [0, 1, 1, 0]]) == Look(3, [[1, 0]]))
        self.assertTrue(count_look(store=store, house=3, firsts=[0, 1, 1, 0], moment=4) == Look(3, [[0, 1]], moment=4))

    def test_errors(self):
        store = Store(line_tree(2), [0, 1, 0])
        for value in (-1, 2, True, False, None, "0", [], (0,), {}):
            self.refuses_given(InvalidHouse, value, count_look, store, value, [0, 0])
            self.refuses_given(InvalidHouse, value, count_look, store, value, None, moment="later")
        for value in (None, True, 0, "", "00", {}, [], [0], [0, 0, 0], [3, 0], [0, 2], [-1, 0], [True, 0], [0, False],
                      [None, 0], ["0", 0], [[0], 0], (3, 0), store, [10 ** 19, 0]):
            self.refuses_given(InvalidFirsts, value, count_look, store, 0, value)
            self.refuses_given(InvalidFirsts, value, count_look, store, 0, value, moment="later")

    def test_firsts_are_not_kept(self):
        store = Store(line_tree(2), [0, 1, 0])
        firsts = [1, 1]
        look = count_look(store, 1, firsts)
        firsts[0] = 2
        self.assertEqual((look.come, count_look(store, 1, firsts).come), ((0, 1), (0, 1, 2)))


if __name__ == "__main__":
    unittest.main()
