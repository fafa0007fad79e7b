"""Points 53 and 54: arrows and pictures."""

import itertools
import unittest

from looksleft.errors import InvalidHouse, InvalidLooks
from looksleft.looks import Look, borders
from looksleft.pictures import arrows, is_picture, looks_fit, picture
from looksleft.stores import Store
from tests import brute, cases
from tests.tools import LooksleftCase, line_tree, odd_values, star_tree

STAR = Store(star_tree(4), [1, 2, 3])
RING = [Look(1, [[0, 1]]), Look(2, [[1, 2]]), Look(3, [[2, 0]])]


def told_borders(looks):
    """Each border, as a tuple, with the house of its look and the writes ahead of it."""
    found = {}
    for at, look in enumerate(looks):
        lots = [list(lot) for lot in look.lots]
        for border in range(max(1, len(lots))):
            found[(at, border)] = (look.house, {write for lot in lots[:border + 1] for write in lot})
    return found


def told_arrows(store, looks, house):
    """All arrows at a house, by the words of the document."""
    found = []
    for border, (look_house, ahead) in told_borders(looks).items():
        for x, z in itertools.permutations(range(len(store)), 2):
            if x in ahead and z not in ahead and house in brute.path(store, store.homes[x], look_house):
                found.append((x, z) + border)
    return sorted(found)


def told_pictures(store, looks):
    """All pictures of looks, by the words of the document."""
    found = set()
    houses, writes, told = range(store.tree.houses), range(len(store)), told_borders(looks)
    for border, (_, ahead) in told.items():
        found |= {("own", border, a, b) for b in ahead for a in writes
                  if a < b and store.homes[a] == store.homes[b] and a not in ahead}
    for (border, (house, ahead)), (other, (other_house, other_ahead)) in itertools.product(told.items(), repeat=2):
        for x in ahead - other_ahead:
            for y in other_ahead - ahead:
                way, other_way = brute.path(store, store.homes[x], house), brute.path(store, store.homes[y], other_house)
                if set(way) & set(other_way):
                    found.add(("two", border, other, x, y))
    for house in houses:
        leads = told_arrows(store, looks, house)
        for first, second, third in itertools.product(leads, repeat=3):
            if first[1] == second[0] and second[1] == third[0] and third[1] == first[0]:
                found.add(("three", house, (first[2:], second[2:], third[2:]), (first[0], second[0], third[0])))
    for i, j in itertools.permutations(range(len(looks)), 2):
        if looks[i].moment is not None and looks[j].moment is not None and looks[i].moment >= looks[j].moment:
            for write in brute.come(looks[j]) - brute.come(looks[i]):
                if looks[i].house in brute.path(store, store.homes[write], looks[j].house):
                    found.add(("time", i, j, write))
    return found


def candidates(store, looks):
    """All tuples that may be pictures of the looks, and some that count from the end or too far."""
    houses, writes, indices = [range(-1, many + 1) for many in (store.tree.houses, len(store), len(looks))]
    told = list(told_borders(looks))
    if looks:
        told += [(-1, 0), (0, -1), (len(looks), 0), (0, max(1, len(looks[0])))]
    yield from itertools.product(["own", ""], told, writes, writes)
    yield from itertools.product(["own", "time", ""], told[:5], told[:5], writes, writes)
    yield from itertools.product(["two"], told, told, writes, writes)
    yield from itertools.product(["time", "two", ""], indices, indices, writes)
    if len(told_borders(looks)) < 4:
        yield from itertools.product(["three"], houses, itertools.product(told[:4], repeat=3), itertools.product(writes, repeat=3))


class TestArrows(LooksleftCase):

    def test_all_arrows_and_no_others(self):
        for search, looks in cases.some_looks(21, 400):
            for house in range(search.store.tree.houses):
                self.assertEqual(arrows(search.store, looks, house), told_arrows(search.store, looks, house))

    def test_by_words(self):
        store = Store(line_tree(3), [0, 2, 0])
        looks = (Look(1, [[0], [1]]), Look(2, []), Look(0, [[2, 1]]))
        self.assertEqual(arrows(store, looks, 0), [(0, 1, 0, 0), (0, 2, 0, 0), (0, 2, 0, 1), (1, 0, 2, 0), (2, 0, 2, 0)])
        self.assertEqual(arrows(store, looks, 1), [(0, 1, 0, 0), (0, 2, 0, 0), (0, 2, 0, 1), (1, 0, 2, 0), (1, 2, 0, 1)])
        self.assertEqual(arrows(store, looks, 2), [(1, 0, 2, 0), (1, 2, 0, 1)])
        self.assertEqual((arrows(store, [], 1), arrows(store, [Look(1, []), Look(1, [[0, 1, 2]])], 1)), ([], []))

    def test_errors(self):
        for value in (-1, 4, 10 ** 19, True, False, None, "0", [], (0,), {}):
            self.refuses_given(InvalidHouse, value, arrows, STAR, RING, value)
            self.refuses_given(InvalidHouse, value, arrows, STAR, [], value)
        wrong = [Look(4, [])]
        self.refuses_given(InvalidLooks, wrong, arrows, STAR, wrong, -1)


class TestPictures(LooksleftCase):

    def test_right_and_bent_pictures(self):
        kinds = set()
        lists = list(cases.some_looks(22, 60)) + [(brute.Search(STAR), RING)]
        for search, looks in lists:
            found = {value for value in candidates(search.store, looks) if is_picture(search.store, looks, value)}
            right = told_pictures(search.store, looks)
            if len(told_borders(looks)) >= 4:
                right = {value for value in right if value[0] != "three"}
            self.assertEqual(found, right)
            kinds |= {value[0] for value in found}
        self.assertEqual(kinds, {"own", "two", "three", "time"})

    def test_looks_fit_exactly_if_some_history_fits(self):
        kinds = []
        for search, looks in cases.some_looks(23, 2500):
            fits = bool(search.ends(looks))
            self.assertIs(looks_fit(search.store, looks), fits)
            shown = picture(search.store, looks)
            self.assertIs(shown is None, fits)
            kinds.append(None if fits else shown[0])
            if not fits:
                self.assertIs(is_picture(search.store, looks, shown), True)
        self.assertEqual(set(kinds), {None, "own", "two", "time"})

    def test_three_borders_that_fit_by_twos(self):
        search = brute.Search(STAR)
        for looks in itertools.permutations(RING):
            self.assertEqual((looks_fit(STAR, looks), search.ends(looks)), (False, frozenset()))
            shown = picture(STAR, looks)
            self.assertEqual((shown[:2], is_picture(STAR, looks, shown)), (("three", 0), True))
            for left_out in range(3):
                two = looks[:left_out] + looks[left_out + 1:]
                self.assertEqual((looks_fit(STAR, two), picture(STAR, two), bool(search.ends(two))), (True, None, True))

    def test_moments(self):
        store = Store(line_tree(2), [0, 1])
        for low, high, fits in ((1, 2, True), (2, 2, False), (3, 2, False), (-5, -4, True), (None, 2, True), (2, None, True)):
            looks = [Look(0, [], moment=low), Look(1, [[0]], moment=high)]
            self.assertIs(looks_fit(store, looks), fits)
            self.assertEqual(picture(store, looks), None if fits else ("time", 0, 1, 0))
        equal = [Look(0, [[0]], moment=2), Look(0, [[0]], moment=2), Look(1, [], moment=2)]
        self.assertIs(looks_fit(store, equal), True)
        crossed = [Look(0, [[0]], moment=1), Look(0, [[0], [1]], moment=0)]
        self.assertEqual((looks_fit(store, crossed), looks_fit(store, crossed[::-1])), (False, False))
        self.assertIs(looks_fit(store, [Look(0, [[0]]), Look(0, [[0], [1]])]), True)

    def test_a_look_twice_and_no_looks(self):
        store = Store(line_tree(3), [0, 2, 0])
        look = Look(1, [[0], [1]], moment=4)
        for looks in ([], [look, look], [look] * 9, (look, Look(1, [[0], [1]], moment=4)), [Look(1, [])] * 9):
            self.assertEqual((looks_fit(store, looks), picture(store, looks)), (True, None))
        spoilt = Look(1, [[2]])
        self.assertEqual(picture(store, [spoilt] * 9)[2:], (0, 2))

    def test_values_that_are_no_pictures(self):
        right = ("three", 0, ((2, 0), (0, 0), (1, 0)), (0, 1, 2))
        self.assertIs(is_picture(STAR, RING, right), True)
        for value in odd_values() + [list(right), right + (0,), right[:3], ("two",) + right[1:], ("Three",) + right[1:],
                                     ("three", False) + right[2:], ("three", 1) + right[2:], ("three", 4) + right[2:],
                                     ("three", None) + right[2:], ("three", 0, [(2, 0), (0, 0), (1, 0)], (0, 1, 2)),
                                     ("three", 0, ([2, 0], (0, 0), (1, 0)), (0, 1, 2)), ("three", 0, right[2], [0, 1, 2]),
                                     ("three", 0, ((2, False), (0, 0), (1, 0)), (0, 1, 2)), ("three", 0, right[2], (0, True, 2)),
                                     ("three", 0, ((2, 0), (False, 0), (1, 0)), (0, 1, 2)), ("three", 0, right[2][:2], (0, 1, 2)),
                                     ("three", 0, right[2], (0, 1)), ("three", 0, right[2], (0, 1, 2, 0)),
                                     ("three", 0, ((2, 1), (0, 0), (1, 0)), (0, 1, 2)), ("three", 0, right[2], (0, 1, 3)),
                                     ("three", 0, ((3, 0), (0, 0), (1, 0)), (0, 1, 2)), ("three", 0, right[2], (0, 1, -1)),
                                     ("three", 0, ((-1, 0), (0, 0), (1, 0)), (0, 1, 2)), ("three", 0, None, (0, 1, 2)),
                                     ("three", 0, right[2], (1, 2, 0)), (STAR, 0, right[2], (0, 1, 2)), ("three", [0]) + right[2:],
                                     ("three", 0, ((2, 0, 0), (0, 0), (1, 0)), (0, 1, 2)), ("three", 0, (None,) * 3, (0, 1, 2))]:
            self.assertIs(is_picture(STAR, RING, value), False, value)

    def test_bent_pictures_of_the_other_kinds(self):
        store = Store(line_tree(2), [0, 1, 0])
        looks = [Look(1, [[2]], moment=1), Look(0, [], moment=1), Look(0, [[0, 1]]), Look(1, [[0, 2]])]
        rights = [("own", (0, 0), 0, 2), ("two", (2, 0), (3, 0), 1, 2), ("two", (3, 0), (2, 0), 2, 1), ("time", 1, 0, 2)]
        for right in rights:
            self.assertIs(is_picture(store, looks, right), True, right)
        bent = [("own", (False, 0), 0, 2), ("own", (0, False), 0, 2), ("own", (0, 0), False, 2), ("own", [0, 0], 0, 2),
                ("own", (0, 1), 0, 2), ("own", (0, 0), 2, 0), ("own", (0, 0), 1, 2), ("own", (3, 0), 0, 2), ("own", (4, 0), 0, 2),
                ("own", (0, -1), 0, 2), ("own", (-4, 0), 0, 2), ("own", 0, 0, 2), ("own", None, 0, 2), ("own", (0, 0), 0, "2"),
                ["own", (0, 0), 0, 2], ("own", (0, 0), 0), ("own", (0, 0), 0, 2, 2), ("own", (0,), 0, 2), ("own", (0, 0), 0, 5),
                ("two", (2, 0), (3, 0), 2, 1), ("two", (3, 0), (2, 0), 1, 2), ("two", (2, False), (3, 0), 1, 2),
                ("two", (2, 0), (3, 0), True, 2), ("two", (3, 0), (2, 0), 2, True), ("two", (2, 0), [3, 0], 1, 2), ("two", (2, 0), (3, 0), 0, 2),
                ("two", (2, 0), (2, 0), 1, 2), ("two", (2, 0), (3, 0), 1, 3), ("two", (2, 0), (3, 1), 1, 2),
                ("two", None, (3, 0), 1, 2), ("two", (2, 0), (3, 0), 1), ["two", (2, 0), (3, 0), 1, 2],
                ("time", 0, 1, 2), ("time", 1, 0, 0), ("time", True, 0, 2), ("time", 1, False, 2), ("time", 1, 0, 3),
                ("time", 1, 2, 0), ("time", 1, 3, 2), ("time", 2, 0, 2), ("time", 1, 4, 2), ("time", -3, 0, 2), ("time", 1, 1, 2),
                ("time", (1, 0), (0, 0), 2), ("time", None, 0, 2), ("time", 1, 0, None), ["time", 1, 0, 2], ("time", 1, 0, 2, 2)]
        for value in bent:
            self.assertIs(is_picture(store, looks, value), False, value)

    def test_errors(self):
        wrong = [Look(1, [])] * 10
        for function, more in ((picture, []), (looks_fit, []), (is_picture, [None])):
            self.refuses_given(InvalidLooks, wrong, function, STAR, wrong, *more)

    def test_by_position_and_by_name(self):
        self.assertEqual(self.same(arrows, ["store", "looks", "house"], [STAR, RING, 0]), [(0, 1, 2, 0), (1, 2, 0, 0), (2, 0, 1, 0)])
        self.assertEqual(self.same(picture, ["store", "looks"], [STAR, RING])[0], "three")
        self.assertIs(self.same(looks_fit, ["store", "looks"], [STAR, RING[:2]]), True)
        self.assertIs(self.same(is_picture, ["store", "looks", "value"], [STAR, RING, picture(STAR, RING)]), True)
        arrows(STAR, RING, 0).clear()
        self.assertEqual(arrows(STAR, tuple(RING), 0), [(0, 1, 2, 0), (1, 2, 0, 0), (2, 0, 1, 0)])

    def test_equal_answers_behind_other_calls(self):
        lists = [(search.store, looks) for search, looks in cases.some_looks(24, 150)]
        first = [(picture(*told), [arrows(*told, house) for house in range(told[0].tree.houses)]) for told in lists]
        for (store, looks), answer in reversed(list(zip(lists, first))):
            store = Store(store.tree, list(store.homes), cells=store.cells)
            looks = tuple(Look(look.house, [list(lot)[::-1] for lot in look.lots], moment=look.moment) for look in looks)
            self.assertEqual((picture(store, looks), [arrows(store, looks, house) for house in range(len(store.tree))]), answer)
        self.assertEqual(borders(RING[0]), ((0, 1),))


if __name__ == "__main__":
    unittest.main()
