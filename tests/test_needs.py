"""Points 73 and 74: needless looks, the fewest books that tell all books, and stretches."""

import itertools
import random
import unittest

from looksleft.ahead import ahead
from looksleft.errors import DoNotFit, Faulty, InvalidBooks, InvalidHouse, InvalidIndex, InvalidLooks, NotARow, SameHome
from looksleft.looks import Look
from looksleft.needs import apart, is_apart, is_needs, needless, needs, stretch
from looksleft.pictures import is_picture
from looksleft.stores import Store
from looksleft.trees import Tree
from tests import brute, cases
from tests.test_books import faults, wrong_books
from tests.tools import LooksleftCase, line_tree, no_numbers, odd_values, star_tree

STORE = Store(line_tree(3), [0, 2, 0])
BOOKS = [[0, 1, 2], [0, 1, 2], [1, 0, 2]]
FAULTY = [[0, 1, 2], [1, 0, 2], [0, 1, 2]]
STAR = Store(star_tree(4), [1, 2, 3])
PAIR = Store(line_tree(3), [0, 2])
PAIRED = [[0, 1], [0, 1], [1, 0]]


def told_stretch(store, books, house, index):
    """The stretch by the words of the document, or None for lines of one home."""
    x, y = books[house][index], books[house][index + 1]
    if store.homes[x] == store.homes[y]:
        return None
    passed = set(brute.path(store, house, store.homes[y]))
    return [other for other in range(store.tree.houses) if books[other].index(x) < books[other].index(y)
            and passed & set(brute.path(store, other, store.homes[x]))]


def all_stretches(store, books):
    """Each tuple (house, index) of lines with unlike homes, with their stretch."""
    found = {(house, index): told_stretch(store, books, house, index)
             for house in range(store.tree.houses) for index in range(len(store) - 1)}
    return {place: houses for place, houses in found.items() if houses is not None}


def told_needless(search, looks):
    """The indices of all needless looks, by all histories of the store."""
    houses = range(search.store.tree.houses)
    lists = [looks] + [looks[:at] + looks[at + 1:] for at in range(len(looks))]
    told = [[brute.surely(search.ends(some), house) for house in houses] for some in lists]
    return [at for at in range(len(looks)) if told[at + 1] == told[0]]


def telling(search, books):
    """All sets of houses that tell the books, by all histories of the store."""
    houses = range(search.store.tree.houses)
    sizes = [set(chosen) for many in range(len(houses) + 1) for chosen in itertools.combinations(houses, many)]
    return [chosen for chosen in sizes
            if all(end == books or any(end[house] != books[house] for house in chosen) for end in search.last)]


def in_a_row():
    """Searches of stores whose houses all have at most two roads, whatever their numbers."""
    stores = [Store(Tree(4, [(0, 2), (0, 3), (1, 2)]), [3, 1, 0]), Store(Tree(4, [(0, 3), (1, 2), (1, 3)]), [2, 0, 3, 2]),
              Store(Tree(3, [(0, 2), (1, 2)]), [0, 1, 2, 1]), Store(Tree(5, [(0, 4), (1, 3), (2, 3), (2, 4)]), [0, 1, 3])]
    searches = [search for search in cases.searches() + cases.greater_searches()
                if all(len(found) < 3 for found in brute.near(search.store).values())]
    return searches + [brute.Search(store) for store in stores]


class TestNeedless(LooksleftCase):

    def test_against_all_histories(self):
        kinds = set()
        for search, looks, _ in cases.fitting_looks(71, 350, 15):
            expected = told_needless(search, looks)
            self.assertEqual(needless(search.store, looks), expected)
            kinds.add((bool(expected), len(expected) < len(looks)))
        self.assertEqual(len(kinds), 4)

    def test_a_look_twice(self):
        look = Look(3, [[0], [1]])
        self.assertEqual(needless(STAR, [look]), [])
        self.assertEqual(needless(STAR, [look, look]), [0, 1])
        self.assertEqual(needless(STAR, (look, Look(2, []), look, Look(3, [[0]]))), [0, 1, 2, 3])
        self.assertEqual(needless(STAR, [look] * 9), list(range(9)))

    def test_two_looks_of_which_each_is_needless_alone(self):
        looks = [Look(3, [[0], [1, 2]]), Look(3, [[0], [2, 1]], moment=4)]
        self.assertEqual([needless(STAR, looks), needless(STAR, looks[:1])], [[0, 1], []])
        self.assertEqual([ahead(STAR, looks[:1], 3), ahead(STAR, [], 3)], [[(0, 1), (0, 2)], []])

    def test_nine_looks(self):
        looks = [Look(3, [[0]]), Look(3, [[0], [1]]), Look(1, []), Look(2, [[2, 1, 0]]), Look(2, [[1], [0]]), Look(0, []),
                 Look(1, [[0]]), Look(1, [[0], [1]]), Look(2, [[1]])]
        self.assertEqual(needless(STAR, looks), [0, 2, 3, 4, 5, 6, 7, 8])
        self.assertEqual(told_needless(brute.Search(STAR), looks), [0, 2, 3, 4, 5, 6, 7, 8])

    def test_errors(self):
        for wrong in (None, [Look(4, [])], [Look(0, [])] * 10):
            self.refuses_given(InvalidLooks, wrong, needless, STAR, wrong)
        for store, looks in cases.unfit_looks(72, 60):
            with self.assertRaises(DoNotFit) as caught:
                needless(store, looks)
            self.assertIs(is_picture(store, looks, caught.exception.picture), True)

    def test_by_position_and_by_name(self):
        look = Look(3, [[0], [1]])
        self.assertEqual(self.same(needless, ["store", "looks"], [STAR, [look, look]]), [0, 1])
        self.assertEqual(self.same(needless, ["store", "looks"], [STAR, []]), [])


class TestNeeds(LooksleftCase):

    def test_the_fewest_houses_that_tell_books(self):
        chooser = random.Random(73)
        sizes = set()
        for search in in_a_row():
            for books in chooser.sample(search.last, min(len(search.last), 25)):
                right = telling(search, books)
                found = needs(search.store, books)
                self.assertEqual((found, type(found)), (sorted(set(found)), list))
                self.assertIn(set(found), right)
                self.assertEqual(len(found), min(map(len, right)))
                self.check_apart(search.store, books, len(found))
                sizes.add(len(found))
        self.assertEqual(sizes, {0, 1, 2, 3, 4, 5})

    def check_apart(self, store, books, many):
        found = apart(store, books)
        stretches = all_stretches(store, books)
        self.assertEqual((type(found), {type(item) for item in found} - {tuple}), (list, set()))
        self.assertEqual((sorted(set(found)), len(found)), (found, many))
        met = [house for place in found for house in stretches[place]]
        self.assertEqual(len(met), len(set(met)))
        self.assertIs(is_apart(store, books, found), True)

    def test_houses_that_tell_in_any_tree(self):
        chooser = random.Random(74)
        for search in cases.searches() + cases.greater_searches()[:1]:
            houses = range(search.store.tree.houses)
            for books in chooser.sample(search.last, min(len(search.last), 6)):
                right = telling(search, books)
                for many in range(len(houses) + 1):
                    for chosen in itertools.permutations(houses, many):
                        self.assertIs(is_needs(search.store, books, list(chosen)), set(chosen) in right)

    def test_rows_of_sixteen_houses_and_twelve_writes(self):
        chooser = random.Random(75)
        for _ in range(4):
            numbers = chooser.sample(range(16), 16)
            tree = Tree(16, sorted(tuple(sorted(pair)) for pair in zip(numbers, numbers[1:])))
            store = Store(tree, [chooser.randrange(16) for _ in range(12)])
            state = brute.start(store)
            while brute.deeds(store, state):
                state = chooser.choice(brute.deeds(store, state))[1]
            found = needs(store, state)
            self.assertIs(is_needs(store, state, found), True)
            self.assertFalse(any(is_needs(store, state, [other for other in found if other != house]) for house in found))
            self.check_apart(store, state, len(found))
            stretches = all_stretches(store, state)
            self.assertTrue(all(set(houses) & set(found) for houses in stretches.values()))
            self.assertEqual([stretch(store, state, *place) for place in stretches], list(stretches.values()))

    def test_few_writes_and_few_houses(self):
        for store, books in ((Store(line_tree(4), []), [[]] * 4), (Store(line_tree(3), [1] * 4), [[0, 1, 2, 3]] * 3),
                             (Store(Tree(1, []), [0, 0, 0]), [[0, 1, 2]]), (Store(Tree(1, []), []), [[]]),
                             (Store(line_tree(2), [1]), [[0], [0]])):
            self.assertEqual((needs(store, books), apart(store, books)), ([], []))
            self.assertIs(is_needs(store, books, []), True)
            self.assertIs(is_apart(store, books, ()), True)
            self.assertIs(is_needs(store, books, [store.tree.houses - 1]), True)
            self.assertIs(is_apart(store, books, [(0, 0)]), False)
        self.assertIs(is_needs(STORE, BOOKS, []), False)

    def test_values_of_is_needs(self):
        self.assertEqual(needs(PAIR, PAIRED), [1, 2])
        for value in ([1, 2], (2, 1), [2, 0, 1], [0, 1, 2], (1, 0, 2)):
            self.assertIs(is_needs(PAIR, PAIRED, value), True, value)
        for value in odd_values() + [[0, 2], [1], [2], [0, 1], [], [1, 2, 1], [1, 2, 2], [1, 2, 3], [-1, 2], [True, 2], [1, "2"],
                                     {1: 1, 2: 2}, "12", [[1, 2]], [1, 2, None], [True, 2, 0], [1, 2, False]]:
            self.assertIs(is_needs(PAIR, PAIRED, value), False, value)

    def test_values_of_is_apart(self):
        store, books = PAIR, PAIRED
        for value in ([(2, 0), (0, 0)], [(0, 0), (2, 0)], ((1, 0), (2, 0)), [(1, 0)], [], (), [(2, 0)]):
            self.assertIs(is_apart(store, books, value), True, value)
        for value in odd_values() + [[(0, 0), (1, 0)], [(0, 0), (0, 0)], [(2, 0), (1, 0), (0, 0)], [(0, 1)], [(0, -1)], [(3, 0)],
                                     [(-1, 0)], [(0, 0, 0)], [(0,)], [[0, 0]], [(False, 0)], [(0, False)], [(True, 0)], [0, 0],
                                     (0, 0), [None], "00", [("0", 0)], [(0, "0")], {(0, 0): 1}, [(2, 0), None], [(0, None)]]:
            if value not in ([], ()):
                self.assertIs(is_apart(store, books, value), False, value)
        self.assertIs(is_apart(STORE, BOOKS, [(2, 1)]), False)
        self.assertEqual([is_apart(STORE, BOOKS, [(house, 0)]) for house in range(3)], [True] * 3)


class TestStretch(LooksleftCase):

    def test_in_any_tree(self):
        chooser = random.Random(76)
        for search in cases.searches() + cases.greater_searches():
            store = search.store
            for books in chooser.sample(search.last, min(len(search.last), 20)):
                for house, index in itertools.product(range(store.tree.houses), range(len(store) - 1)):
                    expected = told_stretch(store, books, house, index)
                    if expected is None:
                        told = {"x": books[house][index], "y": books[house][index + 1]}
                        self.refuses(SameHome, told, stretch, store, books, house, index)
                    else:
                        self.assertEqual(stretch(store, [list(book) for book in books], house, index), expected)

    def test_is_apart_in_any_tree(self):
        chooser = random.Random(77)
        kinds = []
        for search in cases.searches():
            for books in chooser.sample(search.last, min(len(search.last), 4)):
                stretches = all_stretches(search.store, books)
                for chosen in itertools.permutations(list(stretches)[:9], 2):
                    met = [house for place in chosen for house in stretches[place]]
                    kinds.append(len(met) == len(set(met)))
                    self.assertIs(is_apart(search.store, books, list(chosen)), kinds[-1])
        self.assertEqual(set(kinds), {True, False})

    def test_houses_and_indices(self):
        for house in no_numbers() + [-1, 3]:
            self.refuses_given(InvalidHouse, house, stretch, STORE, BOOKS, house, -1)
        for index in no_numbers() + [-1, 2, 3]:
            self.refuses_given(InvalidIndex, index, stretch, STORE, BOOKS, 0, index)
        self.refuses(SameHome, {"x": 0, "y": 2}, stretch, STORE, BOOKS, 2, 1)
        self.refuses_given(InvalidIndex, 0, stretch, Store(line_tree(2), [0]), [[0], [0]], 0, 0)
        self.refuses_given(InvalidIndex, 0, stretch, Store(line_tree(2), []), [[], []], 0, 0)


class TestErrors(LooksleftCase):

    def calls(self, store, books):
        return [(needs, (store, books)), (apart, (store, books)), (stretch, (store, books, None, None)),
                (is_needs, (store, books, None)), (is_apart, (store, books, None))]

    def test_books_first(self):
        for wrong in wrong_books():
            for function, args in self.calls(STORE, wrong):
                self.refuses_given(InvalidBooks, wrong, function, *args)

    def test_faults_next(self):
        bent = Store(star_tree(4), [0, 1, 0])
        for store, books in ((STORE, FAULTY), (bent, [[2, 1, 0]] * 4)):
            for function, args in self.calls(store, books):
                with self.assertRaises(Faulty) as caught:
                    function(*args)
                self.assertEqual(list(vars(caught.exception)), ["fault"])
                self.assertIn(caught.exception.fault, faults(store, books))

    def test_trees_that_are_no_rows(self):
        trees = [(star_tree(4), 0), (Tree(6, [(0, 1), (1, 2), (2, 3), (2, 4), (4, 5)]), 2),
                 (Tree(7, [(0, 3), (1, 3), (2, 3), (3, 4), (4, 5), (4, 6)]), 3)]
        for tree, house in trees:
            store = Store(tree, [0, 0])
            for function in (needs, apart):
                self.refuses(NotARow, {"house": house}, function, store, [[0, 1]] * tree.houses)
                wrong = [[0, 1]]
                self.refuses_given(InvalidBooks, wrong, function, store, wrong)
                self.assertRaises(Faulty, function, store, [[1, 0]] * tree.houses)


class TestArguments(LooksleftCase):

    def test_by_position_and_by_name(self):
        self.assertEqual(self.same(needs, ["store", "books"], [PAIR, PAIRED]), [1, 2])
        self.assertEqual(len(self.same(apart, ["store", "books"], [PAIR, PAIRED])), 2)
        self.assertEqual(self.same(stretch, ["store", "books", "house", "index"], [PAIR, PAIRED, 0, 0]), [0, 1])
        self.assertIs(self.same(is_needs, ["store", "books", "value"], [PAIR, PAIRED, [1, 2]]), True)
        self.assertIs(self.same(is_apart, ["store", "books", "value"], [PAIR, PAIRED, [(2, 0), (0, 0)]]), True)

    def test_tuples_for_lists_and_equal_answers(self):
        lists = [(search.store, books) for search in in_a_row() for books in search.last[:15]]
        first = [(needs(*told), apart(*told)) for told in lists]
        for (store, books), answer in reversed(list(zip(lists, first))):
            store = Store(Tree(store.tree.houses, list(store.tree.roads)), list(store.homes), cells=list(store.cells))
            books = [list(book) for book in books]
            self.assertEqual((needs(store, books), apart(store, books)), answer)
            needs(store, books).clear()
            apart(store, books).clear()
            self.assertEqual((needs(store, books), apart(store, books)), answer)


if __name__ == "__main__":
    unittest.main()
