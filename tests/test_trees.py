"""Points 21 to 27: trees."""

import itertools
import unittest

from looksleft.errors import InvalidHouse, InvalidHouseList, InvalidHouses, InvalidLine, InvalidRoads
from looksleft.errors import NotARoad, NotJoined
from looksleft.trees import Tree, distance, ends, middle, neighbours, on_way, read_tree, side, span, way
from tests.tools import LooksleftCase, line_tree, odd_values, star_tree

FORK = [(0, 1), (1, 2), (1, 3), (3, 4)]
MIXED = [(0, 5), (1, 3), (1, 5), (2, 5), (4, 6), (5, 6)]


def trees():
    return [Tree(1, []), line_tree(2), line_tree(5), star_tree(6), Tree(5, FORK), Tree(7, MIXED),
            line_tree(16), star_tree(16)]


def found_way(tree, a, b):
    """The way by plain search, apart from the package."""
    rows = [(a,)]
    while rows:
        row = rows.pop()
        if row[-1] == b:
            return row
        for u, v in tree.roads:
            for here, there in ((u, v), (v, u)):
                if here == row[-1] and there not in row:
                    rows.append(row + (there,))
    raise AssertionError("no way")


class TestTree(LooksleftCase):

    def test_attributes(self):
        for tree in (Tree(5, FORK), Tree(5, tuple(FORK)), Tree(houses=5, roads=FORK), Tree(roads=FORK, houses=5)):
            self.assertEqual(tree.houses, 5)
            self.assertEqual(len(tree), 5)
            self.assertEqual(tree.roads, tuple(FORK))
            self.assertIs(type(tree.roads), tuple)
            self.assertEqual({type(road) for road in tree.roads}, {tuple})

    def test_one_house_and_sixteen(self):
        self.assertEqual((Tree(1, []).houses, len(Tree(1, ())), Tree(1, []).roads), (1, 1, ()))
        for tree in (line_tree(16), star_tree(16)):
            self.assertEqual((len(tree), len(tree.roads)), (16, 15))

    def test_invalid_houses(self):
        for value in (0, -1, 17, 10 ** 19, True, False, None, "3", [3], (3,), {}, Tree(3, [(0, 1), (1, 2)])):
            self.refuses_given(InvalidHouses, value, Tree, value, [(0, 1), (1, 2)])
            self.refuses_given(InvalidHouses, value, Tree, value, "roads")
        self.refuses_given(InvalidHouses, 17, Tree, 17, [(0, house) for house in range(1, 17)])

    def test_invalid_roads(self):
        wrong = [None, True, 2, "01", {}, {"a": 1}, [], [(0, 1)], [(0, 1), (1, 2), (1, 2)], [(0, 1), (0, 1)],
                 [(1, 2), (0, 1)], [(0, 1), (2, 1)], [(0, 1), (1, 1)], [(0, 1), (1, 3)], [(-1, 0), (0, 1)],
                 [[0, 1], (1, 2)], [(0, 1), [1, 2]], [(0, 1), (1, 2, 2)], [(0, 1), (1,)], [(0, 1), ()], [(0, 1), None],
                 [(0, True), (1, 2)], [(False, 1), (1, 2)], [("0", 1), (1, 2)], [(0, 1), "12"], [(0, 1), {}],
                 [(0, 1), (1, None)], [(0, 1), (1, 10 ** 19)], ([0, 1], [1, 2]), line_tree(3), [line_tree(2)] * 2]
        for value in wrong:
            self.refuses_given(InvalidRoads, value, Tree, 3, value)
        one = [(0, 1)]
        self.refuses_given(InvalidRoads, one, Tree, 1, one)
        out_of_order = [(0, 1), (1, 3), (1, 2)]
        self.refuses_given(InvalidRoads, out_of_order, Tree, 4, out_of_order)

    def test_not_joined(self):
        self.refuses(NotJoined, {"house": 3}, Tree, 4, [(0, 1), (0, 2), (1, 2)])
        self.refuses(NotJoined, {"house": 1}, Tree, 5, [(0, 4), (1, 2), (1, 3), (2, 3)])
        self.refuses(NotJoined, {"house": 2}, Tree, 5, [(0, 1), (2, 3), (2, 4), (3, 4)])
        self.refuses(NotJoined, {"house": 1}, Tree, houses=4, roads=[(0, 2), (0, 3), (2, 3)])

    def test_order_of_errors(self):
        self.refuses_given(InvalidHouses, 0, Tree, 0, None)
        unjoined_and_long = [(0, 1), (0, 2), (1, 2), (0, 3)]
        self.refuses_given(InvalidRoads, unjoined_and_long, Tree, 4, unjoined_and_long)

    def test_joined_exactly_if_no_error(self):
        pairs = list(itertools.combinations(range(4), 2))
        many = 0
        for roads in itertools.combinations(pairs, 3):
            reached = {0}
            for _ in range(4):
                reached |= {x for road in roads if set(road) & reached for x in road}
            lacking = [house for house in range(4) if house not in reached]
            if lacking:
                self.refuses(NotJoined, {"house": lacking[0]}, Tree, 4, list(roads))
            else:
                many += 1
                self.assertEqual(Tree(4, list(roads)).roads, roads)
        self.assertEqual(many, 16)

    def test_in(self):
        tree = Tree(5, FORK)
        self.assertEqual([value for value in range(-3, 9) if value in tree], [0, 1, 2, 3, 4])
        for value in odd_values():
            is_house = type(value) is int and 0 <= value < 5
            self.assertIs(value in tree, is_house, value)
        self.assertFalse(True in tree)
        self.assertFalse(False in tree)
        self.assertFalse((0, 1) in tree)

    def test_equal(self):
        self.assertTrue(Tree(5, FORK) == Tree(5, tuple(FORK)))
        self.assertFalse(Tree(5, FORK) != Tree(5, FORK))
        self.assertFalse(line_tree(3) == star_tree(3))
        self.assertFalse(line_tree(3) == line_tree(4))
        for value in odd_values():
            if not isinstance(value, Tree):
                self.assertFalse(Tree(5, FORK) == value)
                self.assertFalse(value == Tree(5, FORK))

    def test_the_list_of_roads_is_not_kept(self):
        roads = list(FORK)
        tree = Tree(5, roads)
        roads[0] = (0, 4)
        roads.append((2, 4))
        self.assertEqual((tree.roads, way(tree, 0, 4), tree.line()),
                         (tuple(FORK), (0, 1, 3, 4), "5: 0-1 1-2 1-3 3-4"))


class TestWays(LooksleftCase):

    def test_neighbours_and_ends(self):
        tree = Tree(7, MIXED)
        self.assertEqual([neighbours(tree, house) for house in range(7)],
                         [[5], [3, 5], [5], [1], [6], [0, 1, 2, 6], [4, 5]])
        self.assertEqual(ends(tree), [0, 2, 3, 4])
        self.assertEqual((neighbours(Tree(1, []), 0), ends(Tree(1, [])), ends(line_tree(2))), ([], [0], [0, 1]))
        self.assertEqual((ends(line_tree(16)), ends(star_tree(16))), ([0, 15], list(range(1, 16))))
        self.assertEqual(neighbours(star_tree(16), 0), list(range(1, 16)))

    def test_ways_against_a_search(self):
        for tree in trees():
            for a in range(tree.houses):
                for b in range(tree.houses):
                    passed = found_way(tree, a, b)
                    self.assertEqual(way(tree, a, b), passed)
                    self.assertEqual(distance(tree, a, b), len(passed) - 1)
                    for house in range(tree.houses):
                        self.assertIs(on_way(tree, a, b, house), house in passed)
        self.assertEqual((way(Tree(1, []), 0, 0), distance(Tree(1, []), 0, 0)), ((0,), 0))

    def test_middle(self):
        for tree in trees()[:6]:
            for a, b, c in itertools.product(range(tree.houses), repeat=3):
                common = set(found_way(tree, a, b)) & set(found_way(tree, b, c)) & set(found_way(tree, a, c))
                self.assertEqual({middle(tree, a, b, c)}, common)

    def test_side(self):
        for tree in trees():
            for road in tree.roads:
                for u, v in (road, road[::-1]):
                    found = [house for house in range(tree.houses) if u in found_way(tree, house, v)]
                    self.assertEqual(side(tree, u, v), found)

    def test_span(self):
        for tree in trees():
            for houses in ([], [0], [0, 0], [tree.houses - 1], [0, tree.houses - 1], list(range(tree.houses)),
                           [tree.houses // 2, 0, tree.houses // 2], (tree.houses - 1, tree.houses // 2)):
                found = {x for a in houses for b in houses for x in found_way(tree, a, b)}
                self.assertEqual(span(tree, houses), sorted(found))
        self.assertEqual(span(Tree(5, FORK), [3]), [3])
        self.assertEqual(span(Tree(5, FORK), [4, 0] * 500), [0, 1, 3, 4])
        self.assertEqual(span(Tree(5, FORK), (2, 4)), [1, 2, 3, 4])

    def test_wrong_houses(self):
        tree = Tree(5, FORK)
        for value in (-1, 5, 10 ** 19, True, False, None, "0", "", [], [0], (0,), {}, tree):
            self.refuses_given(InvalidHouse, value, neighbours, tree, value)
            for function in (way, distance):
                self.refuses_given(InvalidHouse, value, function, tree, value, 0)
                self.refuses_given(InvalidHouse, value, function, tree, 0, value)
                self.refuses_given(InvalidHouse, value, function, tree, value, "later")
            self.refuses_given(InvalidHouse, value, side, tree, value, 0)
            self.refuses_given(InvalidHouse, value, side, tree, 0, value)
            self.refuses_given(InvalidHouse, value, side, tree, value, -7)
            for function in (middle, on_way):
                self.refuses_given(InvalidHouse, value, function, tree, value, 1, 1)
                self.refuses_given(InvalidHouse, value, function, tree, 1, value, 1)
                self.refuses_given(InvalidHouse, value, function, tree, 1, 1, value)
                self.refuses_given(InvalidHouse, value, function, tree, value, -7, None)
                self.refuses_given(InvalidHouse, value, function, tree, 1, value, None)

    def test_not_a_road(self):
        tree = Tree(5, FORK)
        self.refuses(NotARoad, {"u": 0, "v": 3}, side, tree, 0, 3)
        self.refuses(NotARoad, {"u": 4, "v": 1}, side, tree, 4, 1)
        self.refuses(NotARoad, {"u": 1, "v": 1}, side, tree, 1, 1)
        self.refuses(NotARoad, {"u": 0, "v": 0}, side, Tree(1, []), 0, 0)

    def test_wrong_lists_of_houses(self):
        tree = Tree(5, FORK)
        for value in (None, True, 0, "0", "", {}, {"0": 1}, [5], [-1], [0, True], [False], [None], [[0]], [(0,)],
                      [0, "1"], (0, 5), [0, 1, 2, 3, 4, 5], tree, [tree]):
            self.refuses_given(InvalidHouseList, value, span, tree, value)


class TestLines(LooksleftCase):

    def test_lines(self):
        self.assertEqual(Tree(4, [(0, 1), (1, 2), (1, 3)]).line(), "4: 0-1 1-2 1-3")
        self.assertEqual((Tree(1, []).line(), line_tree(2).line()), ("1:", "2: 0-1"))
        self.assertEqual(star_tree(12).line(), "12: 0-1 0-2 0-3 0-4 0-5 0-6 0-7 0-8 0-9 0-10 0-11")

    def test_read_back(self):
        for tree in trees():
            again = read_tree(tree.line())
            self.assertTrue(again == tree)
            self.assertEqual((again.houses, again.roads), (tree.houses, tree.roads))

    def test_wrong_lines(self):
        wrong = ["", ":", "1", "1: ", " 1:", "01:", "+1:", "-1:", "0:", "17:", "2:", "2: 0-1 ", "2:  0-1", "2 : 0-1",
                 "2:0-1", "2: 1-0", "2: 0-1 0-1", "2: 00-1", "2: 0-01", "2: +0-1", "2: 0-+1", "2: 0--1", "2: 0 -1",
                 "2: 0- 1", "2: 0_1", "2: 0-2", "2: 0-1,", "2: 0", "2: 0-", "2: -1", "2: a-b", "2:: 0-1", "2: 0-1 :",
                 "3: 1-2 0-1", "3: 0-1 0-1", "3: 0-1  1-2", "3: 0-1", "4: 0-1 0-2 1-2", "3: 0-1 1-2-2", "3: 0-1 1-2 0-2",
                 "1: 0-0", "1: /", "x:", "1.0:", "1e0:", "1_0:", "2: 0-1\n", "2:\t0-1", "2: 0-1 /", "3: 0-1 1-02",
                 "99999999999999999999:", "2: 0-99999999999999999999", "1" * 2000, "1:" + " " * 1990]
        for line in wrong:
            self.refuses_given(InvalidLine, line, read_tree, line)
        for value in odd_values():
            if value != "1:":
                self.refuses_given(InvalidLine, value, read_tree, value)

    def test_each_bent_line_is_refused_or_read_as_itself(self):
        told = "5: 0-1 1-2 1-3 3-4"
        for at in range(len(told) + 1):
            for bent in [told[:at] + told[at + 1:]] + [told[:at] + mark + told[at:] for mark in " 0123-+:._"]:
                try:
                    self.assertEqual(read_tree(bent).line(), bent)
                except InvalidLine as error:
                    self.assertIs(error.given, bent)


class TestArguments(LooksleftCase):

    def test_by_position_and_by_name(self):
        tree = Tree(5, FORK)
        self.assertEqual(self.same(neighbours, ["tree", "house"], [tree, 1]), [0, 2, 3])
        self.assertEqual(self.same(ends, ["tree"], [tree]), [0, 2, 4])
        self.assertEqual(self.same(way, ["tree", "a", "b"], [tree, 4, 0]), (4, 3, 1, 0))
        self.assertEqual(self.same(distance, ["tree", "a", "b"], [tree, 4, 0]), 3)
        self.assertEqual(self.same(middle, ["tree", "a", "b", "c"], [tree, 4, 0, 2]), 1)
        self.assertIs(self.same(on_way, ["tree", "a", "b", "house"], [tree, 4, 0, 3]), True)
        self.assertEqual(self.same(side, ["tree", "u", "v"], [tree, 3, 1]), [3, 4])
        self.assertEqual(self.same(span, ["tree", "houses"], [tree, [2, 4]]), [1, 2, 3, 4])
        self.assertTrue(self.same(read_tree, ["line"], ["5: 0-1 1-2 1-3 3-4"]) == tree)
        self.assertEqual(self.same(Tree, ["houses", "roads"], [5, FORK]), tree)

    def test_changing_an_answer_changes_no_later_one(self):
        tree = Tree(5, FORK)
        for function, args in ((neighbours, [tree, 1]), (ends, [tree]), (side, [tree, 1, 3]), (span, [tree, [0, 4]])):
            told = function(*args)
            kept = list(told)
            told.clear()
            self.assertEqual(function(*args), kept)
        self.assertEqual(way(tree, 0, 4), (0, 1, 3, 4))


if __name__ == "__main__":
    unittest.main()
