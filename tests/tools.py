"""What several test files need."""

import copy
import unittest

from looksleft.errors import DoNotFit, InvalidLooks
from looksleft.looks import Look
from looksleft.pictures import is_picture
from looksleft.running import Running
from looksleft.stores import Store
from looksleft.trees import Tree


def line_tree(houses):
    """The tree whose houses stand in a row."""
    return Tree(houses, [(house, house + 1) for house in range(houses - 1)])


def star_tree(houses):
    """The tree in which all houses are neighbours of house 0."""
    return Tree(houses, [(0, house) for house in range(1, houses)])


def nested(deep):
    value = []
    for _ in range(deep - 1):
        value = [value]
    return value


def no_numbers():
    """Values that are never taken for a house, a write or an index, and one number that is too great for any."""
    return [None, True, False, "", "0", [], (), {}, [0], (0,), {"0": 0}, 10 ** 19, line_tree(2)]


def odd_values():
    """Values of all kinds that callers may pass as any value."""
    tree = line_tree(3)
    store = Store(tree, [0, 1])
    return [None, True, False, -1, 0, 1, 2, 3, 16, 17, 10 ** 19, -(10 ** 19), "", "0", "own", "1:", "1: /", "make",
            [], (), {}, {"a": 1}, {"0": [0]}, [None], [True], [False, 0], (True,), [0], (0,), [0, 1], (0, 1), [1, 0],
            [[]], [[], []], ((), ()), [[], [], []], [[0, 1]] * 3, [(0, 1), (1, 2)], [[0, 1], [1, 2]], "abc", ["a"],
            ("own", 0, 0, 1), ("own", (0, 0), 0, 1), ("two", 0, 1, 0, 1), ("two", (0, 0), (1, 0), 0, 1),
            ("one", 0, 1, 0, 1), ("three", 0, ((0, 0),) * 3, (0, 1, 0)), ("time", 0, 1, 0), ("make", 0), ["make", 0],
            [("make", 0)], [("make", True)], [["make", 0]], [("hand", 0, 1)], [("hand", 0, 2)], [("make", 0, 1)],
            ([], [], []), ([[0], [0]], [], []), [1, 2, 3], (1, 2, 3), [[1], [1], [1]], {"own": 1}, nested(8),
            tree, store, Look(0, [[0]], moment=1), Look(1, []), Running(store), [tree], [store], [Look(0, [[1]])],
            (Look(9, []),), [Running(store)], {"look": Look(0, [])}, [Look(0, [])] * 10]


class LooksleftCase(unittest.TestCase):
    """A test case that can ask for an error with its very values."""

    def refuses(self, error, told, function, *args, **more):
        """The call raises just this error, with just these attributes, and leaves its arguments alone."""
        before = copy.deepcopy((args, more))
        with self.assertRaises(error) as caught:
            function(*args, **more)
        self.assertEqual(type(caught.exception), error)
        self.assertEqual(list(vars(caught.exception)), list(told))
        for name, value in told.items():
            self.assertEqual(vars(caught.exception)[name], value)
            self.assertEqual(type(vars(caught.exception)[name]), type(value))
        self.unchanged(before, (args, more))

    def refuses_given(self, error, given, function, *args, **more):
        """As refuses, for an error that has the very argument as its attribute."""
        with self.assertRaises(error) as caught:
            function(*args, **more)
        self.assertEqual(type(caught.exception), error)
        self.assertEqual(list(vars(caught.exception)), ["given"])
        self.assertIs(caught.exception.given, given)

    def refuses_wrong_looks(self, calls):
        """Each of the calls, tuples (function, args) for a list of looks, refuses what is no list of looks."""
        for wrong in (None, {}, "", 0, [Look(16, [])], [Look(0, [[12]])], [Look(0, [])] * 10, [[0]], [None], Look(0, [])):
            for function, args in calls(wrong):
                self.refuses_given(InvalidLooks, wrong, function, *args)

    def refuses_unfit_looks(self, lists, calls):
        """Each of the calls refuses looks that do not fit, with one of their pictures."""
        for store, looks in lists:
            for function, args in calls(store, looks):
                with self.assertRaises(DoNotFit) as caught:
                    function(*args)
                self.assertEqual(list(vars(caught.exception)), ["picture"])
                self.assertIs(is_picture(store, looks, caught.exception.picture), True)

    def unchanged(self, before, after):
        """Two values are equal, runnings counted by their scripts."""
        self.assertEqual(plain(before), plain(after))

    def same(self, function, names, args):
        """The call gives one answer by position, by name, on a second call, and leaves its arguments alone."""
        before = copy.deepcopy(args)
        first = function(*args)
        second = function(**dict(zip(names, args)))
        third = function(*copy.deepcopy(args))
        self.assertEqual(plain(first), plain(second))
        self.assertEqual(plain(first), plain(third))
        self.unchanged(before, args)
        self.new_lists(first, second)
        return first

    def new_lists(self, first, second):
        """No list stands at two places of the two results."""
        found = lists_in(first) + lists_in(second)
        self.assertEqual(len({id(item) for item in found}), len(found))


def lists_in(value):
    if not isinstance(value, (list, tuple)):
        return []
    inner = [item for part in value for item in lists_in(part)]
    return inner + [value] if isinstance(value, list) else inner


def plain(value):
    """The value with what can be compared in the place of runnings."""
    if isinstance(value, Running):
        return ("running", plain(value.store), value.script)
    if isinstance(value, (list, tuple)):
        return type(value)([plain(item) for item in value])
    if isinstance(value, dict):
        return {key: plain(item) for key, item in value.items()}
    return value
