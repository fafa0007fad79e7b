"""Points 41 to 45: whole books."""

import itertools
import random
import unittest

from looksleft.books import book_fault, earliest, is_book_fault, is_books, is_moments, is_standing, script_of, seen, stand
from looksleft.errors import Faulty, InvalidBooks, InvalidCounts, Torn
from looksleft.running import run
from looksleft.stores import Store
from looksleft.trees import Tree
from tests import brute
from tests.tools import LooksleftCase, line_tree, odd_values, star_tree

STORE = Store(line_tree(3), [0, 2, 0])
BOOKS = [[0, 1, 2], [0, 1, 2], [1, 0, 2]]


def small_stores():
    return [Store(Tree(1, []), [0, 0]), Store(line_tree(3), []), Store(line_tree(2), [0, 1, 0]), STORE,
            Store(line_tree(3), [1, 0, 2]), Store(star_tree(4), [1, 2, 3]), Store(star_tree(4), [0, 3, 3]),
            Store(line_tree(4), [0, 3, 1]), Store(Tree(5, [(0, 1), (1, 2), (1, 3), (3, 4)]), [0, 4])]


def all_books(store):
    rows = list(itertools.permutations(range(len(store))))
    return itertools.product(rows, repeat=store.tree.houses)


def on_side(store, u, v, house):
    return u in brute.path(store, house, v)


def faults(store, books):
    """All faults of books, by the words of the document."""
    found = set()
    homes, writes = store.homes, range(len(store))

    def ahead(house, first, second):
        return books[house].index(first) < books[house].index(second)

    for a, b in itertools.permutations(writes, 2):
        if a < b and homes[a] == homes[b] and ahead(homes[a], b, a):
            found.add(("own", homes[a], a, b))
        for road in store.tree.roads:
            for u, v in (road, road[::-1]):
                if on_side(store, u, v, homes[a]) and on_side(store, u, v, homes[b]):
                    if ahead(u, a, b) and ahead(v, b, a):
                        found.add(("one", u, v, a, b))
                if on_side(store, u, v, homes[a]) and on_side(store, v, u, homes[b]):
                    if ahead(u, b, a) and ahead(v, a, b):
                        found.add(("two", u, v, a, b))
    return found


def wrong_books():
    return [None, True, 3, "", "012", {}, [], [[]], [[0, 1, 2]] * 2, [[0, 1, 2]] * 4, [[0, 1, 2], [0, 1, 2], [1, 0]],
            [[0, 1, 2], [0, 1, 2], [1, 0, 3]], [[0, 1, 2], [0, 1, 2], [1, 0, 0]], [[0, 1, 2], [0, 1, 2], [1, 0, -1]],
            [[0, 1, 2], [0, True, 2], [1, 0, 2]], [[False, 1, 2], [0, 1, 2], [1, 0, 2]], [[0, 1, 2], [0, 1, 2], None],
            [[0, 1, 2], "012", [1, 0, 2]], [[0, 1, 2], {0: 0, 1: 1, 2: 2}, [1, 0, 2]], [[0, 1, 2], [0, 1, None], [1, 0, 2]],
            [[0, 1, 2], [0, 1, 2, 0], [1, 0, 2]], [[0, 1, 2], [0, 1, "2"], [1, 0, 2]], [[0, 1, 2], STORE, [1, 0, 2]],
            STORE, STORE.tree, [STORE] * 3, [[0, 1, 2], [0, 1, [2]], [1, 0, 2]], {"0": [0, 1, 2]}]


class TestFaults(LooksleftCase):

    def test_is_books(self):
        for value in (BOOKS, tuple(BOOKS), [tuple(book) for book in BOOKS], [[2, 1, 0]] * 3, [(0, 1, 2), [0, 2, 1], (2, 0, 1)]):
            self.assertIs(is_books(STORE, value), True)
        for value in wrong_books():
            self.assertIs(is_books(STORE, value), False, value)
        for value in odd_values():
            self.assertIs(is_books(STORE, value), False, value)
        empty = Store(line_tree(2), [])
        self.assertEqual([is_books(empty, value) for value in ([[], []], ((), ()), [], [[]], [[], [0]])],
                         [True, True, False, False, False])

    def test_a_fault_exactly_if_no_history(self):
        for store in small_stores():
            last = set(brute.Search(store).last)
            for books in all_books(store):
                fault = book_fault(store, books)
                self.assertIs(fault is None, books in last)
                self.assertIs(fault is None, not faults(store, books))
                if fault is not None:
                    self.assertIn(fault, faults(store, books))

    def test_right_and_bent_faults(self):
        kinds = set()
        for store in small_stores():
            houses, writes = range(-1, store.tree.houses + 1), range(-1, len(store) + 1)
            candidates = [(kind, house, a, b) for kind in ("own", "one", "two", "") for house in houses
                          for a in writes for b in writes]
            candidates += [(kind, u, v, a, b) for kind in ("one", "two", "own", "") for u in houses for v in houses
                           for a in writes for b in writes]
            chosen = list(all_books(store))
            for books in random.Random(3).sample(chosen, min(len(chosen), 12)):
                found = {value for value in candidates if is_book_fault(store, [list(book) for book in books], value)}
                self.assertEqual(found, faults(store, books))
                kinds |= {fault[0] for fault in found}
        self.assertEqual(kinds, {"own", "one", "two"})

    def test_each_kind(self):
        own = [[2, 1, 0], [2, 1, 0], [1, 2, 0]]
        self.assertIs(is_book_fault(STORE, own, ("own", 0, 0, 2)), True)
        for bent in (("own", 0, 2, 0), ("own", 1, 0, 2), ("own", 2, 0, 2), ("own", 0, 0, 1), ("own", 0, 1, 2)):
            self.assertIs(is_book_fault(STORE, own, bent), False)
        one = [[0, 1, 2], [0, 2, 1], [1, 2, 0]]
        self.assertIs(is_book_fault(STORE, one, ("one", 1, 2, 0, 2)), True)
        for bent in (("one", 2, 1, 0, 2), ("one", 2, 1, 2, 0), ("one", 1, 2, 2, 0), ("one", 0, 1, 0, 2)):
            self.assertIs(is_book_fault(STORE, one, bent), False)
        two = [[0, 1, 2], [1, 0, 2], [0, 1, 2]]
        self.assertEqual([is_book_fault(STORE, two, ("two", 1, 2, 0, 1)), is_book_fault(STORE, two, ("two", 2, 1, 1, 0))],
                         [True, True])
        for bent in (("two", 1, 2, 1, 0), ("two", 2, 1, 0, 1), ("two", 0, 1, 0, 1), ("two", 0, 2, 0, 1), ("one", 1, 2, 0, 1)):
            self.assertIs(is_book_fault(STORE, two, bent), False)

    def test_values_that_are_no_faults(self):
        two = [[0, 1, 2], [1, 0, 2], [0, 1, 2]]
        for value in odd_values() + [["two", 1, 2, 0, 1], ("two", True, 2, 0, 1), ("two", 1, 2, False, 1),
                                     ("two", 1, 2, 0, True), ("two", 1, 2, 0, 1, 0), ("two", 1, 2, 0), ("two", 1, 2, 0, 3),
                                     ("two", 1, 3, 0, 1), ("two", 1, 2, -3, 1), ("two", -2, 2, 0, 1), ("two", "1", 2, 0, 1),
                                     (None, 1, 2, 0, 1), (["two"], 1, 2, 0, 1), ("two", [1], 2, 0, 1), (STORE, 1, 2, 0, 1),
                                     ("own", 0, 0), ("own",), ("own", None, 0, 2), ("own", 0, 0, 2)]:
            self.assertIs(is_book_fault(STORE, two, value), False, value)
        bent = [[2, 0, 1], [0, 1, 2], [0, 1, 2]]
        self.assertEqual([is_book_fault(STORE, bent, ("own", 0, 0, 2)), is_book_fault(STORE, bent, ("own", False, 0, 2))],
                         [True, False])

    def test_invalid_books(self):
        for value in wrong_books():
            self.refuses_given(InvalidBooks, value, book_fault, STORE, value)
            for function in (is_book_fault, is_moments):
                self.refuses_given(InvalidBooks, value, function, STORE, value, None)
            for function in (earliest, script_of, seen):
                self.refuses_given(InvalidBooks, value, function, STORE, value)
            for function in (is_standing, stand):
                self.refuses_given(InvalidBooks, value, function, STORE, value, None)

    def test_faulty(self):
        for books in ([[2, 1, 0], [2, 1, 0], [1, 2, 0]], [[0, 1, 2], [1, 0, 2], [0, 1, 2]]):
            for function, more in ((earliest, []), (script_of, []), (seen, []), (is_standing, [None]), (stand, [None])):
                with self.assertRaises(Faulty) as caught:
                    function(STORE, books, *more)
                self.assertEqual(list(vars(caught.exception)), ["fault"])
                self.assertIs(is_book_fault(STORE, books, caught.exception.fault), True)
                self.assertEqual(caught.exception.fault, book_fault(STORE, books))


class TestMoments(LooksleftCase):

    def least(self, store, books):
        """The least line moments, raised from 1 on as long as a rule is broken."""
        moments = [[1] * len(book) for book in books]
        while True:
            raised = [list(row) for row in moments]
            for house, book in enumerate(books):
                for at, write in enumerate(book):
                    for low in self.bounds(store, books, moments, house, at):
                        raised[house][at] = max(raised[house][at], low + 1)
            if raised == moments:
                return moments
            moments = raised

    def bounds(self, store, books, moments, house, at):
        """The moments than which the one of a line must be greater."""
        write = books[house][at]
        row = brute.path(store, house, store.homes[write])
        lows = [moments[house][at - 1]] if at > 0 else []
        return lows + ([moments[row[1]][books[row[1]].index(write)]] if len(row) > 1 else [])

    def test_least_stretched_and_spoilt_moments(self):
        chooser = random.Random(11)
        for store in small_stores():
            for books in brute.Search(store).last:
                moments = earliest(store, books)
                self.assertEqual(moments, self.least(store, books))
                self.assertIs(is_moments(store, books, moments), True)
                shift = chooser.randint(-50, 50)
                stretched = tuple(tuple(3 * moment + shift for moment in row) for row in moments)
                self.assertIs(is_moments(store, books, stretched), True)
                for house, row in enumerate(moments):
                    for at in range(len(row)):
                        spoilt = [list(told) for told in moments]
                        spoilt[house][at] += chooser.randint(-3, 3)
                        right = all(spoilt[h][k] > low for h, told in enumerate(spoilt) for k in range(len(told))
                                    for low in self.bounds(store, books, spoilt, h, k))
                        self.assertIs(is_moments(store, books, spoilt), right)

    def test_values_that_are_no_moments(self):
        right = [[1, 4, 5], [2, 3, 6], [1, 3, 7]]
        self.assertEqual(earliest(STORE, BOOKS), right)
        self.assertIs(is_moments(STORE, BOOKS, [[-9, 5, 10 ** 19], [2, 3, 10 ** 19 + 1], [1, 4, 10 ** 19 + 2]]), True)
        for value in odd_values() + [right[:2], right + [[1]], [[1, 4, 5], [2, 3, 6], [1, 3]], [[1, 4, 5], [2, 3, 6], [1, 3, 7, 8]],
                                     [[1, 4, 5], [2, 3, 6], [1, 3, None]], [[True, 4, 5], [2, 3, 6], [1, 3, 7]],
                                     [[1, 4, 5], [2, 3, 6], [1, 3, "7"]], [[1, 4, 5], [2, 3, 6], "137"],
                                     [[1, 4, 4], [2, 3, 6], [1, 3, 7]], [[1, 3, 5], [2, 3, 6], [1, 3, 7]], [right, right, right],
                                     [[False, 4, 5], [2, 3, 6], [1, 3, 7]]]:
            self.assertIs(is_moments(STORE, BOOKS, value), False, value)

    def test_faulty_books_have_no_moments(self):
        store = Store(line_tree(2), [0, 0])
        books = [[0, 1], [1, 0]]
        self.assertIs(is_moments(store, books, [[1, 2], [3, 4]]), False)
        own = [[1, 0], [1, 0]]
        self.assertIs(is_moments(store, own, [[1, 2], [3, 4]]), False)
        self.assertIs(is_moments(store, own, "no"), False)

    def test_scripts(self):
        for store in small_stores():
            for books in brute.Search(store).last:
                script = script_of(store, books)
                running = run(store, script)
                self.assertIs(running.finished, True)
                self.assertEqual(tuple(running.book(house) for house in range(store.tree.houses)), books)
                self.assertEqual((type(script), {type(deed) for deed in script} - {tuple}), (list, set()))

    def test_seen(self):
        self.assertEqual(seen(STORE, BOOKS), [(0, 2), (1, 2)])
        for store in (Store(line_tree(2), [0, 1, 0]), Store(line_tree(3), [1, 2]), Store(star_tree(3), [1, 0])):
            for script, states in brute.Search(store).histories():
                found = []
                for deed, before, after in zip(script, states, states[1:]):
                    if deed[0] == "make":
                        found += [(a, after[deed[1]][-1]) for a in before[deed[1]]]
                self.assertEqual(seen(store, states[-1]), sorted(found))


class TestStandings(LooksleftCase):

    def test_against_all_histories(self):
        for store in small_stores():
            search = brute.Search(store)
            ends = {}
            for state in search.table:
                for end in self.ends_behind(search, state, {}):
                    ends.setdefault(end, set()).add(tuple(len(book) for book in state))
            for end in random.Random(2).sample(search.last, min(6, len(search.last))):
                for counts in itertools.product(range(len(store) + 1), repeat=store.tree.houses):
                    self.assertIs(is_standing(store, end, counts), counts in ends[end])
                    self.check_stand(store, end, list(counts), counts in ends[end])

    def ends_behind(self, search, state, known):
        if state not in known:
            further = search.table[state]
            known[state] = {end for _, after in further for end in self.ends_behind(search, after, known)}
            if not further:
                known[state] = {state}
        return known[state]

    def check_stand(self, store, books, counts, stands):
        if stands:
            running = stand(store, books, counts)
            self.assertEqual([running.book(house) for house in range(store.tree.houses)],
                             [tuple(book[:count]) for book, count in zip(books, counts)])
            self.assertEqual(len(running.script), sum(counts))
            return
        torn = [(u, v, write) for v, book in enumerate(books) for write in book[:counts[v]]
                for u in brute.path(store, v, store.homes[write])[1:2] if write not in books[u][:counts[u]]]
        least = min(torn)[:2]
        first = [write for u, v, write in torn if (u, v) == least][0]
        self.refuses(Torn, {"u": least[0], "v": least[1], "write": first}, stand, store, books, counts)

    def test_none_and_all(self):
        for store in small_stores():
            for books in brute.Search(store).last[:4]:
                houses = store.tree.houses
                self.assertIs(is_standing(store, books, [0] * houses), True)
                self.assertIs(is_standing(store, books, (len(store),) * houses), True)
                self.assertEqual(stand(store, books, [0] * houses).script, ())
                self.assertIs(stand(store, books, [len(store)] * houses).finished, True)

    def test_torn_names_the_first_line(self):
        store = Store(line_tree(2), [0, 0])
        self.refuses(Torn, {"u": 0, "v": 1, "write": 0}, stand, store, [[0, 1], [0, 1]], [0, 2])
        self.refuses(Torn, {"u": 0, "v": 1, "write": 1}, stand, store, [[0, 1], [0, 1]], [1, 2])
        store = Store(line_tree(3), [1, 1])
        self.refuses(Torn, {"u": 1, "v": 0, "write": 0}, stand, store, [[0, 1]] * 3, [2, 0, 1])
        self.refuses(Torn, {"u": 1, "v": 2, "write": 0}, stand, store, [[0, 1]] * 3, [0, 0, 1])

    def test_wrong_counts(self):
        wrong = [None, True, 0, "", "111", {}, [], [1, 1], [1, 1, 1, 1], [1, 1, 4], [-1, 1, 1], [1, True, 1], [False, 0, 0],
                 [1, None, 1], [1, "1", 1], [[1], 1, 1], [1, 1, 10 ** 19], STORE, [STORE] * 3]
        for value in wrong:
            self.assertIs(is_standing(STORE, BOOKS, value), False, value)
            self.refuses_given(InvalidCounts, value, stand, STORE, BOOKS, value)
        for value in odd_values():
            self.assertIn(is_standing(STORE, BOOKS, value), (True, False))
        self.refuses_given(InvalidCounts, wrong[8], stand, STORE, BOOKS, wrong[8])
        high_and_torn = [4, 0, 0]
        self.refuses_given(InvalidCounts, high_and_torn, stand, STORE, BOOKS, high_and_torn)

    def test_order_of_errors(self):
        faulty = [[2, 1, 0], [2, 1, 0], [1, 2, 0]]
        short = faulty[:2]
        self.refuses_given(InvalidBooks, short, stand, STORE, short, "counts")
        with self.assertRaises(Faulty):
            stand(STORE, faulty, "counts")
        with self.assertRaises(Faulty):
            is_standing(STORE, faulty, "counts")


class TestArguments(LooksleftCase):

    def test_by_position_and_by_name(self):
        bent = [[0, 1, 2], [1, 0, 2], [0, 1, 2]]
        self.assertIs(self.same(is_books, ["store", "value"], [STORE, BOOKS]), True)
        self.assertEqual(self.same(book_fault, ["store", "books"], [STORE, bent])[0], "two")
        self.assertIs(self.same(is_book_fault, ["store", "books", "value"], [STORE, bent, ("two", 1, 2, 0, 1)]), True)
        self.assertEqual(self.same(earliest, ["store", "books"], [STORE, BOOKS]), [[1, 4, 5], [2, 3, 6], [1, 3, 7]])
        self.assertIs(self.same(is_moments, ["store", "books", "value"], [STORE, BOOKS, [[1, 4, 5], [2, 3, 6], [1, 3, 7]]]), True)
        self.assertEqual(len(self.same(script_of, ["store", "books"], [STORE, BOOKS])), 9)
        self.assertEqual(self.same(seen, ["store", "books"], [STORE, BOOKS]), [(0, 2), (1, 2)])
        self.assertIs(self.same(is_standing, ["store", "books", "value"], [STORE, BOOKS, [1, 1, 1]]), True)
        self.assertEqual(self.same(stand, ["store", "books", "counts"], [STORE, BOOKS, [1, 1, 2]]).book(2), (1, 0))

    def test_tuples_for_lists_give_the_same(self):
        tuples = tuple(tuple(book) for book in BOOKS)
        for function in (book_fault, earliest, script_of, seen):
            self.assertEqual(function(STORE, BOOKS), function(STORE, tuples))
        self.assertEqual(stand(STORE, BOOKS, [1, 1, 2]).script, stand(STORE, tuples, (1, 1, 2)).script)

    def test_changing_lists_changes_no_later_answer(self):
        for function in (earliest, script_of, seen):
            first = function(STORE, BOOKS)
            kept = [list(row) if isinstance(row, list) else row for row in first]
            if function is earliest:
                first[0].clear()
            first.clear()
            self.assertEqual(function(STORE, BOOKS), kept)
        books, counts = [list(book) for book in BOOKS], [1, 1, 2]
        running = stand(STORE, books, counts)
        books[0].clear()
        counts.clear()
        self.assertEqual((running.book(2), running.settle()), ((1, 0), 2))


if __name__ == "__main__":
    unittest.main()
