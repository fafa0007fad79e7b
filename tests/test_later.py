"""Points 81 to 83: which write surely came to one house no later than another write came to another house."""

import itertools
import random
import unittest

from looksleft.ahead import ahead
from looksleft.errors import DoNotFit, InvalidHouse, InvalidWrite, NotSure, Sure
from looksleft.later import earlier_standing, is_no_later, is_why_no_later, no_later, why_no_later
from looksleft.looks import Look
from looksleft.pictures import is_picture
from looksleft.stores import Store
from looksleft.trees import Tree
from tests import brute, cases
from tests.test_ahead import told_papers
from tests.tools import LooksleftCase, line_tree, no_numbers, odd_values, star_tree

STORE = Store(line_tree(2), [1, 0, 1])
LOOKS = [Look(0, [[0], [1]]), Look(1, [[0], [1]])]
STAR = Store(star_tree(4), [1, 2, 3])


def free_cases(seed, many, greater=0):
    """Tuples (search, looks, ends, states) of looks that fit without their moments, with all states on the way to ends."""
    lists = list(cases.some_looks(seed, many))
    lists += [(search, looks) for search, looks, _ in cases.fitting_looks(seed, 0, greater)]
    for search, looks in lists:
        ends = search.ends(looks, minded=False)
        if ends:
            yield search, looks, ends, search.leading_to(ends)


def told_no_later(store, states, house, other):
    """All tuples (x, z) such that x has come to house in all states in which z has come to other."""
    writes = range(len(store))
    found = {(x, z) for x in writes for z in writes}
    for come, behind in {(state[house], state[other]) for state in states}:
        found -= {(x, z) for z in behind for x in writes if x not in come}
    return sorted(found)


def told_reasons(store, looks, house, other, x, z):
    """All reasons, by the words of the document."""
    found = set()
    for y in range(len(store)):
        if house in brute.path(store, store.homes[y], other):
            first = {None} if x == y else told_papers(store, looks, house, x, y)
            second = {None} if y == z else told_papers(store, looks, other, y, z)
            found |= set(itertools.product([y], first, second))
    return found


class TestNoLater(LooksleftCase):

    def test_against_all_standings(self):
        kinds = set()
        for search, looks, _, states in free_cases(81, 500, 40):
            store = search.store
            for house, other in itertools.product(range(store.tree.houses), repeat=2):
                expected = told_no_later(store, states, house, other)
                self.assertEqual(no_later(store, looks, house, other), expected)
                for x, z in itertools.product(range(len(store)), repeat=2):
                    self.assertIs(is_no_later(store, looks, house, other, x, z), (x, z) in expected)
                kinds |= {(house == other, x == z) for x, z in expected}
        self.assertEqual(len(kinds), 4)

    def test_at_one_house(self):
        for search, looks, _, _ in free_cases(82, 120, 10):
            bare = [Look(look.house, look.lots) for look in looks]
            for house in range(search.store.tree.houses):
                expected = ahead(search.store, bare, house) + [(x, x) for x in range(len(search.store))]
                self.assertEqual(no_later(search.store, looks, house, house), sorted(expected))

    def test_a_third_write_that_joins_two_and_two_looks_needed(self):
        self.assertEqual(no_later(STORE, LOOKS, 0, 1), [(0, 1), (0, 2), (1, 1), (1, 2)])
        for left_out in range(2):
            left = LOOKS[:left_out] + LOOKS[left_out + 1:]
            self.assertIs(is_no_later(STORE, left, 0, 1, 0, 2), False)
        self.assertEqual(told_reasons(STORE, LOOKS, 0, 1, 0, 2), {(1, ("one", 0, (0, 0)), ("one", 1, (1, 1)))})

    def test_moments_are_not_minded(self):
        looks = [Look(0, [[0], [1]], moment=9), Look(1, [[0], [1]], moment=3), Look(0, [], moment=9)]
        self.assertEqual(no_later(STORE, looks, 0, 1), no_later(STORE, LOOKS, 0, 1))
        self.assertEqual(why_no_later(STORE, looks, 0, 1, 0, 2), why_no_later(STORE, LOOKS, 0, 1, 0, 2))
        crossed = [Look(0, [[1]], moment=1), Look(0, [], moment=2)]
        self.assertEqual(no_later(STORE, crossed, 0, 0), [(0, 0), (0, 2), (1, 0), (1, 1), (1, 2), (2, 2)])
        self.assertEqual(earlier_standing(STORE, crossed, 0, 1, 0, 1)[1], [1, 1])

    def test_no_writes_and_one_house(self):
        self.assertEqual(no_later(Store(line_tree(2), []), [], 1, 0), [])
        self.assertEqual(no_later(Store(Tree(1, []), [0, 0]), [], 0, 0), [(0, 0), (0, 1), (1, 1)])


class TestReasons(LooksleftCase):

    def test_a_reason_exactly_if_sure(self):
        kinds = set()
        for search, looks, _, states in free_cases(83, 160, 12):
            store = search.store
            for house, other in itertools.product(range(store.tree.houses), repeat=2):
                expected = told_no_later(store, states, house, other)
                for x, z in itertools.product(range(len(store)), repeat=2):
                    right = told_reasons(store, looks, house, other, x, z)
                    self.assertIs(bool(right), (x, z) in expected)
                    if not right:
                        self.refuses(NotSure, {"x": x, "z": z}, why_no_later, store, looks, house, other, x, z)
                        continue
                    reason = why_no_later(store, looks, house, other, x, z)
                    self.assertIn(reason, right)
                    self.assertIs(is_why_no_later(store, looks, house, other, x, z, reason), True)
                    kinds.add((reason[1] is None, reason[2] is None))
        self.assertEqual(len(kinds), 4)

    def test_right_and_bent_reasons(self):
        chooser = random.Random(84)
        seen = []
        for search, looks, _, _ in free_cases(84, 150, 15):
            store = search.store
            if not len(store):
                continue
            house, other = [chooser.randrange(store.tree.houses) for _ in range(2)]
            x, z = [chooser.randrange(len(store)) for _ in range(2)]
            right = told_reasons(store, looks, house, other, x, z)
            papers = [None, ("own",)] + sorted({paper for y in range(len(store)) for paper in
                                                told_papers(store, looks, house, x, y) | told_papers(store, looks, other, y, z)
                                                if paper != ("own",)}, key=repr)
            for value in itertools.product(range(-1, len(store) + 1), papers[:9], papers[:9]):
                self.assertIs(is_why_no_later(store, looks, house, other, x, z, value), value in right, value)
            for value in sorted(right, key=repr)[:20]:
                self.assertIs(is_why_no_later(store, looks, house, other, x, z, value), True)
                seen.append(value)
        self.assertGreater(len(seen), 60)

    def test_values_that_are_no_reasons(self):
        right = (1, ("one", 0, (0, 0)), ("one", 1, (1, 1)))
        self.assertIs(is_why_no_later(STORE, LOOKS, 0, 1, 0, 2, right), True)
        for value in odd_values() + [list(right), right[:2], right + (None,), (True,) + right[1:], (1, None, right[2]),
                                     (1, right[1], None), (0,) + right[1:], (2,) + right[1:], (3,) + right[1:], (-2,) + right[1:],
                                     (1, list(right[1]), right[2]), (1, right[1], list(right[2])), (1, right[2], right[1]),
                                     (1, ("one", False, (0, 0)), right[2]), (1, ("one", 0, (0, False)), right[2]),
                                     (1, right[1], ("one", True, (1, 1))), (1, right[1], ("one", 1, (True, 1))),
                                     (1, ("one", 1, (0, 0)), right[2]), (1, right[1], ("one", 0, (1, 1))), (1, False, False),
                                     (None,) + right[1:], ("1",) + right[1:], ((1,),) + right[1:], (1, (), ()), (1, "own", "own"),
                                     (0, None, ("own",)), (2, ("own",), None)]:
            self.assertIs(is_why_no_later(STORE, LOOKS, 0, 1, 0, 2, value), False, value)
        self.assertIs(is_why_no_later(STORE, [], 1, 0, 0, 2, (0, None, ("own",))), True)
        self.assertIs(is_why_no_later(STORE, [], 1, 0, 0, 2, (2, ("own",), None)), True)
        self.assertIs(is_why_no_later(STORE, [], 1, 0, 1, 1, (1, None, None)), False)
        self.assertIs(is_why_no_later(STORE, [], 1, 1, 1, 1, (1, None, None)), True)
        self.assertIs(is_why_no_later(STORE, [], 1, 1, 1, 1, (1, (), ())), False)


class TestEarlierStanding(LooksleftCase):

    def test_exactly_if_not_sure(self):
        many = 0
        for search, looks, ends, states in free_cases(85, 300, 30):
            store = search.store
            for house, other in itertools.product(range(store.tree.houses), repeat=2):
                expected = told_no_later(store, states, house, other)
                for x, z in itertools.product(range(len(store)), repeat=2):
                    if (x, z) in expected:
                        self.refuses(Sure, {"x": x, "z": z}, earlier_standing, store, looks, house, other, x, z)
                        continue
                    books, counts = earlier_standing(store, looks, house, other, x, z)
                    many += 1
                    self.assertEqual((type(books), type(counts), len(counts)), (list, list, store.tree.houses))
                    self.assertIn(tuple(map(tuple, books)), ends)
                    state = tuple(tuple(book[:count]) for book, count in zip(books, counts))
                    self.assertTrue(state in states and z in state[other] and x not in state[house])
                    if many % 40 == 0:
                        self.assertIn(state, search.leading_to([tuple(map(tuple, books))]))
        self.assertGreater(many, 5000)


class TestErrors(LooksleftCase):

    def calls(self, store, looks, house, other, x=0, z=1):
        return [(no_later, (store, looks, house, other)), (is_no_later, (store, looks, house, other, x, z)),
                (why_no_later, (store, looks, house, other, x, z)),
                (is_why_no_later, (store, looks, house, other, x, z, (0, None, None))),
                (earlier_standing, (store, looks, house, other, x, z))]

    def test_looks_first(self):
        self.refuses_wrong_looks(lambda wrong: self.calls(STAR, wrong, -1, -1, -1, -1))

    def test_pictures_mind_no_moments(self):
        many = 0
        for search, looks in cases.some_looks(86, 300):
            bare = [Look(look.house, look.lots) for look in looks]
            if search.ends(bare):
                continue
            many += 1
            for function, args in self.calls(search.store, looks, -1, -1, -1, -1):
                with self.assertRaises(DoNotFit) as caught:
                    function(*args)
                self.assertNotEqual(caught.exception.picture[0], "time")
                self.assertIs(is_picture(search.store, bare, caught.exception.picture), True)
        self.assertGreater(many, 30)

    def test_houses(self):
        for house in no_numbers() + [-1, 4]:
            for function, args in self.calls(STAR, [], house, house, -1, -1):
                self.refuses_given(InvalidHouse, house, function, *args)
            for function, args in self.calls(STAR, [], 0, house, -1, -1):
                self.refuses_given(InvalidHouse, house, function, *args)
            for function, args in self.calls(STAR, [], house, [house], -1, -1):
                self.refuses_given(InvalidHouse, house, function, *args)

    def test_writes(self):
        for write in no_numbers() + [-1, 3]:
            for function, args in self.calls(STAR, [], 0, 1, write, 0)[1:]:
                self.refuses_given(InvalidWrite, write, function, *args)
            for function, args in self.calls(STAR, [], 0, 1, 0, write)[1:]:
                self.refuses_given(InvalidWrite, write, function, *args)
            for function, args in self.calls(STAR, [], 0, 1, write, [write])[1:]:
                self.refuses_given(InvalidWrite, write, function, *args)

    def test_not_sure_and_sure(self):
        self.refuses(NotSure, {"x": 0, "z": 2}, why_no_later, STORE, LOOKS[:1], 0, 1, 0, 2)
        self.refuses(Sure, {"x": 0, "z": 2}, earlier_standing, STORE, LOOKS, 0, 1, 0, 2)
        self.refuses(Sure, {"x": 1, "z": 1}, earlier_standing, STORE, [], 0, 1, 1, 1)


class TestArguments(LooksleftCase):

    def test_by_position_and_by_name(self):
        names = ["store", "looks", "house", "other"]
        self.assertEqual(self.same(no_later, names, [STORE, LOOKS[:1], 0, 1]), [(0, 1), (1, 1)])
        names += ["x", "z"]
        self.assertIs(self.same(is_no_later, names, [STORE, LOOKS, 0, 1, 0, 2]), True)
        reason = self.same(why_no_later, names, [STORE, LOOKS, 0, 1, 0, 2])
        self.assertEqual(type(reason), tuple)
        self.assertIs(self.same(is_why_no_later, names + ["value"], [STORE, LOOKS, 0, 1, 0, 2, reason]), True)
        told = self.same(earlier_standing, names, [STORE, LOOKS[:1], 0, 1, 0, 2])
        self.assertEqual(told, ([[0, 1, 2], [0, 2, 1]], [0, 2]))

    def test_equal_answers_for_equal_objects_behind_other_calls(self):
        lists = [(search.store, looks) for search, looks, _, _ in free_cases(87, 60)]
        first = [self.answers(*told) for told in lists]
        for (store, looks), answer in reversed(list(zip(lists, first))):
            self.assertEqual(self.answers(*cases.equal_ones(store, looks)), answer)

    def answers(self, store, looks):
        found = []
        for house, other in itertools.product(range(store.tree.houses), repeat=2):
            told = no_later(store, looks, house, other)
            for x, z in itertools.product(range(len(store)), repeat=2):
                found.append((why_no_later if (x, z) in told else earlier_standing)(store, looks, house, other, x, z))
        return found

    def test_a_list_that_changes(self):
        looks = list(LOOKS)
        told = no_later(STORE, looks, 0, 1)
        looks.pop()
        self.assertEqual(no_later(STORE, looks, 0, 1), [(0, 1), (1, 1)])
        told.clear()
        self.assertEqual(no_later(STORE, tuple(LOOKS), 0, 1), [(0, 1), (0, 2), (1, 1), (1, 2)])
        books, counts = earlier_standing(STORE, looks, 0, 1, 0, 2)
        books[0].clear()
        counts.clear()
        self.assertEqual(earlier_standing(STORE, looks, 0, 1, 0, 2), ([[0, 1, 2], [0, 2, 1]], [0, 2]))


if __name__ == "__main__":
    unittest.main()
