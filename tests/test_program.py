"""Points 1 to 12 over the whole program: all functions of the interface in one row."""

import copy
import importlib
import inspect
import random
import unittest

from looksleft import errors
from looksleft.ahead import ahead
from looksleft.clocks import clock_history
from looksleft.desk import Desk
from looksleft.looks import Look
from looksleft.partly import can_have_by, greatest_by, least_by
from looksleft.running import Running
from looksleft.stores import Store
from looksleft.trees import Tree
from tests import cases, catalogue
from tests.test_limits import big_stores, chance_run, nine_looks
from tests.tools import LooksleftCase, line_tree, lists_in, no_numbers, plain, star_tree


def outcome(function, args, more):
    """What a call returns, or the class and the attributes of the error that it raises."""
    try:
        return ("returned", function(*args, **more))
    except errors.LeftError as error:
        return ("raised", type(error).__name__, tuple(vars(error).values()))


def shown_plain(value):
    """The value with desks and runnings told by what they hold."""
    if isinstance(value, Desk):
        return ("desk", value.lines())
    if isinstance(value, (list, tuple)):
        return type(value)([shown_plain(item) for item in value])
    return plain(value)


def as_lists(value):
    """The value with lists for tuples and tuples for lists made alike, as point 10 counts them."""
    if isinstance(value, (list, tuple)):
        return [as_lists(item) for item in value]
    return value


def swapped(value):
    """An equal value: a tuple for each list in it, and new trees, stores and looks."""
    if isinstance(value, (list, tuple)):
        return tuple(swapped(item) for item in value)
    if isinstance(value, Look):
        return Look(value.house, [list(lot)[::-1] for lot in value.lots], moment=value.moment)
    if isinstance(value, Tree):
        return Tree(value.houses, list(value.roads))
    if isinstance(value, Store):
        return Store(swapped(value.tree), list(value.homes), cells=list(value.cells))
    return value


def pools(seed, many):
    """Pools of small stores, and one of each of the greatest stores."""
    chooser = random.Random(seed)
    for search, looks, _ in cases.fitting_looks(seed, many, 5):
        if len(search.store):
            yield catalogue.Pool(catalogue.catalogue_store(search.store), looks, chooser)


def great_pools(seed, many):
    chooser = random.Random(seed)
    for store in chooser.sample(big_stores(), many):
        looks = nine_looks(chance_run(store, chooser)[1], chooser)
        yield catalogue.Pool(store, looks, chooser)


class TestInterface(LooksleftCase):

    def test_functions_with_their_arguments(self):
        for name, function, given, named in catalogue.all_functions():
            self.assertTrue(inspect.isfunction(function), name)
            self.assertEqual(catalogue.parameters_of(function), catalogue.listed_parameters(given, named), name)

    def test_each_is_defined_in_its_file(self):
        for file, listed in catalogue.FUNCTIONS.items():
            for told in listed:
                name = told.split()[0]
                self.assertEqual(getattr(importlib.import_module(f"looksleft.{file}"), name).__module__, f"looksleft.{file}")

    def test_classes_with_their_methods(self):
        for file, classes in catalogue.CLASSES.items():
            for name, (made, *methods) in classes.items():
                made_class = getattr(importlib.import_module(f"looksleft.{file}"), name)
                self.assertEqual((made_class.__module__, made_class.__mro__[1:]), (f"looksleft.{file}", (object,)))
                _, given, named = catalogue.parse("made " + made)
                self.assertEqual(catalogue.parameters_of(made_class), catalogue.listed_parameters(given, named), name)
                for told in methods:
                    method, given, named = catalogue.parse(told)
                    self.assertIn(method, vars(made_class))
                    found = catalogue.parameters_of(vars(made_class)[method])[1:]
                    self.assertEqual(found, catalogue.listed_parameters(given, named), method)

    def test_properties_and_attributes(self):
        for made_class, names in ((Running, ["finished", "script"]), (Look, ["come"]), (Desk, ["looks"])):
            for name in names:
                self.assertIsInstance(vars(made_class)[name], property)
        store = Store(line_tree(2), [0])
        for value, names in ((store.tree, ["houses", "roads"]), (store, ["tree", "homes", "cells"]), (Running(store), ["store"]),
                             (Look(0, []), ["house", "lots", "moment"]), (Desk(store), ["store"])):
            self.assertLessEqual(set(names), set(vars(value)))

    def test_nothing_is_equal_to_what_is_of_another_class(self):
        store = Store(line_tree(2), [0])
        values = [store, store.tree, Look(0, []), Running(store), Desk(store), (), [], None, 0, "2: 0-1"]
        for at, first in enumerate(values):
            for other in values[:at] + values[at + 1:]:
                self.assertFalse(first == other)


class TestCalls(LooksleftCase):

    def check_pool(self, pool):
        """Each function by position and by name, with equal arguments, behind other calls; new lists, arguments left alone."""
        asked = []
        for name, function, args, more in catalogue.calls(pool):
            before = copy.deepcopy((args, more))
            first = outcome(function, list(args.values()), more)
            second = outcome(function, [], {**args, **more})
            self.assertEqual(shown_plain(first), shown_plain(second), name)
            self.unchanged(before, (args, more))
            if first[0] == "returned":
                pool.made[name] = copy.deepcopy(first[1]) if name != "resume" else None
                self.new_lists(first[1], second[1])
                self.assertFalse({id(item) for item in lists_in(list(args.values()))} & {id(item) for item in lists_in(first[1])}, name)
            asked.append((name, function, args, more, shown_plain(first)))
        for name, function, args, more, expected in reversed(asked):
            found = outcome(function, [swapped(value) for value in args.values()], {key: swapped(value) for key, value in more.items()})
            self.assertEqual(as_lists(shown_plain(found)), as_lists(expected), name)
        return [(name, expected[0], expected[1]) for name, _, _, _, expected in asked]

    def test_small_stores(self):
        told = [item for pool in pools(151, 120) for item in self.check_pool(pool)]
        names = {name for name, _, _, _ in catalogue.all_functions()}
        self.assertEqual({name for name, kind, _ in told if kind == "returned"}, names)
        # The looks of the pools fit, and their books have no fault.
        judging = {name for name in names if name.startswith("is_")} - {"is_book_fault", "is_picture"}
        self.assertEqual({name for name, _, answer in told if answer is True} & judging, judging)

    def test_great_stores(self):
        told = [item for pool in great_pools(152, 8) for item in self.check_pool(pool)]
        names = {name for name, _, _, _ in catalogue.all_functions()}
        self.assertEqual({name for name, _, _ in told}, names)
        # These ask for arguments that are seldom right by chance; with nine looks there is no room for one more.
        seldom = {"why_come", "why_missing", "why_no_later", "sooner_by", "resume", "shown_history", "last_books", "common_books",
                  "behind_books", "have_history", "with_lot", "parted_books", "earlier_standing"}
        self.assertEqual(names - {name for name, kind, _ in told if kind == "returned"} - seldom, set())

    def test_errors_hold_new_lists(self):
        store = Store(star_tree(4), [1, 2])
        looks = [Look(3, [[1]]), Look(1, []), Look(1, [[0]])]
        for function, args in ((clock_history, ()), (least_by, (0,)), (greatest_by, (0,)), (can_have_by, (0, []))):
            first, second = [outcome(function, [store, looks, [(2, 1)], *args], {}) for _ in range(2)]
            self.assertEqual((first[:2], first), (("raised", "NoClock"), second))
            self.assertIsNot(first[2][0], second[2][0])


# For each function the arguments that are checked, in this order. "looks!" stands for looks that do not fit, "bare!" for looks
# that do not fit without their moments, "books!" for books with a fault, "cell!" for a cell that nobody wrote.
ORDER = """
neighbours: house; way: a b; distance: a b; middle: a b c; on_way: a b house; side: u v; span: houses; read_tree: line; made_in: house;
written: cell; read_store: line; run: script; is_book_fault: books; book_fault: books; earliest: books books!; is_moments: books;
script_of: books books!; seen: books books!; is_standing: books books!; stand: books books! counts; count_look: house firsts moment;
arrows: looks house; is_picture: looks; picture: looks; looks_fit: looks; is_fitting: looks; history: looks looks!; is_history: looks;
ahead: looks looks! house; is_ahead: looks looks! house x z; verdict: looks looks! house x z; why_ahead: looks looks! house x z;
is_paper: looks looks! house x z; behind_books: looks looks! house x z; closed: looks looks! house lot; with_lot: looks looks! house lot;
count_rows: looks looks! house; is_row: looks looks! house; row_of: looks looks! house; open_pairs: looks looks! house;
row_at: looks looks! house index; row_books: looks looks! house row; needless: looks looks!; needs: books books!;
stretch: books books! house index; apart: books books!; is_needs: books books!; is_apart: books books!;
no_later: looks bare! house other; is_no_later: looks bare! house other x z; why_no_later: looks bare! house other x z;
is_why_no_later: looks bare! house other x z; earlier_standing: looks bare! house other x z; least: looks looks! house moment;
greatest: looks looks! house moment; can_have: looks looks! house moment lot; fate: looks looks! house moment write;
count_lots: looks looks! house moment; lot_at: looks looks! house moment index; why_come: looks looks! house moment write;
why_missing: looks looks! house moment write; is_why_come: looks looks! house moment write; is_why_missing: looks looks! house moment write;
have_history: looks looks! house moment lot; shown: looks looks! house moment cell; shown_history: looks looks! house moment cell;
at_last: looks looks! house cell; last_books: looks looks! house write; common: looks looks! cell; sure_common: looks looks! cell;
common_books: looks looks! write; least_past: looks looks! moment; greatest_past: looks looks! moment; can_be_past: looks looks! moment past;
past_picture: looks looks! moment past; past_history: looks looks!; is_past_history: looks looks!; resume: looks looks!;
sooner_pairs: looks bare!; sooner_by: looks bare! i j; is_pairs: looks; clock_ring: looks bare! pairs; is_clock_ring: looks bare! pairs;
clock_history: looks bare! pairs; least_by: looks bare! pairs house before behind; greatest_by: looks bare! pairs house before behind;
can_have_by: looks bare! pairs house lot before behind; last_lot: books books! house cell count; own_lines: books books! cell count;
exchanges: books books! cell count; copies: books books!; parting: books books! cell cell!; is_last_table: cell cell!;
count_last_tables: cell cell!; table_books: cell cell! table; is_answers: cell cell!; verdict_of: cell cell! answers;
next_ask: cell cell! answers; alone: house book cell cell!; parted_books: house book cell cell!; read_desk: lines
"""

NAMES = {"house": "InvalidHouse", "a": "InvalidHouse", "b": "InvalidHouse", "c": "InvalidHouse", "u": "InvalidHouse", "v": "InvalidHouse",
         "other": "InvalidHouse", "houses": "InvalidHouseList", "line": "InvalidLine", "cell": "InvalidCell", "script": "InvalidScript",
         "books": "InvalidBooks", "counts": "InvalidCounts", "firsts": "InvalidFirsts", "moment": "InvalidMoment", "looks": "InvalidLooks",
         "x": "InvalidWrite", "z": "InvalidWrite", "write": "InvalidWrite", "lot": "InvalidLot", "index": "InvalidIndex", "i": "InvalidIndex",
         "j": "InvalidIndex", "row": "InvalidRow", "past": "InvalidPast", "pairs": "InvalidPairs", "before": "InvalidList", "behind": "InvalidList",
         "count": "InvalidCount", "table": "InvalidTable", "answers": "InvalidAnswers", "book": "InvalidBook", "lines": "InvalidLines"}


class TestErrorsInOrder(LooksleftCase):

    store = Store(line_tree(3), [0, 0, 2], cells=[1, 1, 1])
    right = {"store": store, "tree": store.tree, "looks": [Look(0, [[0]], moment=5)], "books": [[0, 1, 2]] * 3, "house": 0, "other": 1, "a": 0,
             "b": 1, "c": 2, "u": 0, "v": 1, "houses": [0], "line": "", "cell": 1, "script": [], "counts": [0] * 3, "firsts": [0] * 3,
             "moment": 5, "x": 0, "z": 2, "write": 0, "lot": [0], "index": 0, "i": 0, "j": 0, "row": [0, 1, 2], "past": [[], [], []],
             "pairs": [], "before": [], "behind": [], "count": 0, "table": [1] * 3, "answers": [], "book": [0, 1, 2], "lines": ["1: /"],
             "look": Look(0, []), "value": None, "greatest": False}
    wrong = {"looks!": ("DoNotFit", "looks", [Look(0, [[0]], moment=1), Look(0, [], moment=2)]),
             "bare!": ("DoNotFit", "looks", [Look(0, [[1]])]), "books!": ("Faulty", "books", [[1, 0, 2]] * 3), "cell!": ("NeverWritten", "cell", 5)}

    def order(self):
        for told in ORDER.replace("\n", " ").split(";"):
            name, _, words = told.strip().partition(": ")
            yield name, words.split()

    def wrong_values(self, word):
        """Wrong values for an argument; the first one is the least odd one."""
        if word == "cell":
            return [6, -1, True, "0", [0], None]
        if word in ("moment",):
            return ["5", True, [], {}]
        if NAMES[word] in ("InvalidHouse", "InvalidWrite", "InvalidIndex", "InvalidCount"):
            return [99, *no_numbers(), -1]
        return [{}, None, True, 0, "x", [None], [True], self.store]

    def test_all_functions_are_there(self):
        listed = {name for name, _ in self.order()}
        names = {name for name, _, _, _ in catalogue.all_functions()}
        self.assertEqual(names - listed, {"ends", "is_script", "is_books", "borders", "is_looks", "is_past"})
        self.assertEqual(listed - names, set())

    def test_each_wrong_argument_with_all_later_ones_wrong(self):
        functions = {name: (function, given, named) for name, function, given, named in catalogue.all_functions()}
        for name, words in self.order():
            function, given, named = functions[name]
            names = given + [word.split("=")[0] for word in named]
            for at, word in enumerate(words):
                for given_value in [None] if "!" in word else self.wrong_values(word):
                    if given_value is None and word in ("cell", "moment") and any(part.split("=")[0] == word for part in named):
                        continue
                    args = {argument: self.right[argument] for argument in names}
                    for later in words[at + 1:]:
                        if "!" not in later:
                            args[later] = self.wrong_values(later)[0]
                    self.check_error(name, function, args, word, given_value)

    def check_error(self, name, function, args, word, given):
        if "!" in word:
            error, argument, value = self.wrong[word]
            args[argument] = value
        else:
            error, argument, value = NAMES[word], word, given
            args[word] = given
        with self.assertRaises(errors.LeftError) as caught:
            function(**args)
        self.assertEqual(type(caught.exception).__name__, error, (name, word, value))
        if error.startswith("Invalid"):
            self.assertIs(caught.exception.given, value)

    def test_functions_that_judge_raise_nothing_for_odd_values(self):
        functions = {name: (function, given) for name, function, given, _ in catalogue.all_functions() if name.startswith("is_")}
        odd = [{"a": [1]}, [[[[[[[[]]]]]]]], ("own",), (None,) * 3, ([], [], []), ("time", 0, 0, 0), (0, None, None), [(0, 1)], [True], (True,),
               ("two", [], [], [], []), ("one", 0, 0), [Look(0, [])], Running(self.store), Desk(self.store), 10 ** 19, -1, "", True, False, None]
        for name, (function, given) in functions.items():
            if "value" not in given:
                continue
            for value in odd:
                args = {argument: self.right[argument] for argument in given}
                args["value"] = value
                self.assertIn(function(**args), (True, False))


class TestShared(LooksleftCase):

    def test_one_tree_store_and_look_used_by_all(self):
        tree = star_tree(4)
        look = Look(0, [[1]], moment=3)
        stores = [Store(tree, [1, 2, 3]), Store(tree, [0, 1, 1])]
        desks = [Desk(store) for store in stores for _ in range(2)]
        running = Running(stores[0])
        before = [ahead(store, [look], 2) for store in stores]
        for desk in desks:
            desk.add(look)
        running.make(1)
        running.settle()
        desks[0].drop(0)
        desks[2].add(Look(0, [[1], [2]], moment=4))
        for store, told in zip(stores, before):
            self.assertEqual(ahead(store, [look], 2), told)
            self.assertTrue(store.tree == tree)
        self.assertEqual([len(desk.looks) for desk in desks], [0, 1, 2, 1])
        self.assertTrue(look == Look(0, [[1]], moment=3) and tree == star_tree(4))
        self.assertEqual(vars(look), vars(Look(0, [[1]], moment=3)))

    def test_lists_given_to_trees_stores_and_looks_that_change(self):
        roads, homes, cells, lots = [(0, 1)], [0, 1], [0, 5], [[1, 0]]
        tree = Tree(2, roads)
        store = Store(tree, homes, cells=cells)
        look = Look(1, lots, moment=2)
        desk = Desk(store)
        desk.add(look)
        for changed in (roads, homes, cells, lots[0], lots):
            changed.clear()
        self.assertEqual((tree.line(), store.line(), desk.lines()), ("2: 0-1", "2: 0-1 / 0.0 1.5", ["2: 0-1 / 0.0 1.5", "1: 0 1 @ 2"]))

    def test_a_list_that_the_caller_changes_between_two_calls(self):
        for pool in pools(153, 40):
            looks = list(pool.looks)
            pool.looks = looks
            asked = [(name, function, args, more, shown_plain(outcome(function, list(args.values()), more)))
                     for name, function, args, more in catalogue.calls(pool) if args.get("looks") is looks]
            kept = list(looks)
            looks.clear()
            for name, function, args, more, _ in asked:
                found = outcome(function, list(args.values()), more)
                empty = outcome(function, list({**args, "looks": []}.values()), more)
                self.assertEqual(as_lists(shown_plain(found)), as_lists(shown_plain(empty)), name)
            looks.extend(kept)
            for name, function, args, more, expected in asked:
                self.assertEqual(shown_plain(outcome(function, list(args.values()), more)), expected, name)


if __name__ == "__main__":
    unittest.main()
