"""Point 12: stores of 16 houses and 12 writes with 9 looks, and each function asked there."""

import random
import unittest

from looksleft.books import book_fault, earliest, is_book_fault, is_books, is_moments, is_standing, script_of, seen, stand
from looksleft.errors import DoNotFit, Faulty, InvalidLooks, Torn
from looksleft.histories import history, is_fitting, is_history
from looksleft.looks import Look, borders, count_look, is_looks
from looksleft.pictures import arrows, is_picture, looks_fit, picture
from looksleft.running import Running, is_script, run
from looksleft.stores import Store, read_store
from looksleft.trees import Tree, read_tree
from tests import brute
from tests.test_books import faults
from tests.test_histories import keeps_all
from tests.test_pictures import told_arrows
from tests.tools import LooksleftCase, line_tree, star_tree

BUSH = Tree(16, sorted((house // 2, house + 1) if house else (0, 1) for house in range(15)))


def big_stores():
    chooser = random.Random(41)
    trees = [line_tree(16), star_tree(16), BUSH]
    return [Store(tree, homes, cells=[write % 6 for write in range(12)]) for tree in trees
            for homes in ([chooser.randrange(16) for _ in range(12)], [0, 15] * 6, list(range(12)), [7] * 12)]


def chance_run(store, chooser):
    """A script of a history, with the states behind its deeds."""
    state = brute.start(store)
    script, states = [], [state]
    while True:
        further = brute.deeds(store, state)
        if not further:
            return script, states
        deed, state = chooser.choice(further)
        script.append(deed)
        states.append(state)


def nine_looks(states, chooser):
    looks = []
    for place in sorted(chooser.sample(range(len(states)), 9)):
        house = chooser.randrange(16)
        book = states[place][house]
        cut = chooser.randint(0, len(book))
        lots = [[write] for write in book[:cut]] + [list(book[cut:])]
        looks.append(Look(house, [lot for lot in lots if lot], moment=chooser.choice([place, None])))
    return looks


class TestLimits(LooksleftCase):

    def runs(self):
        chooser = random.Random(42)
        for store in big_stores():
            script, states = chance_run(store, chooser)
            yield store, script, states, nine_looks(states, chooser)

    def test_running(self):
        for store, script, states, _ in self.runs():
            self.assertEqual((len(script), is_script(store, script)), (192, True))
            running = run(store, script)
            self.assertEqual(tuple(running.book(house) for house in range(16)), states[-1])
            other = Running(store)
            for house in store.homes:
                other.make(house)
            self.assertEqual((other.settle(), other.finished), (180, True))
            self.assertTrue(read_store(store.line()) == store)
            self.assertTrue(read_tree(store.tree.line()) == store.tree)

    def test_books(self):
        for store, script, states, _ in self.runs():
            books = [list(book) for book in states[-1]]
            self.assertEqual((is_books(store, books), book_fault(store, books)), (True, None))
            moments = earliest(store, books)
            self.assertIs(is_moments(store, books, moments), True)
            self.assertEqual(run(store, script_of(store, books)).book(5), tuple(books[5]))
            self.assertEqual(len(seen(store, books)), len(set(seen(store, books))))
            counts = [len(book) for book in states[100]]
            self.assertIs(is_standing(store, books, counts), True)
            self.assertEqual([stand(store, books, counts).book(house) for house in range(16)], list(states[100]))
            torn = [0] * 16
            torn[store.homes[0] - 1] = 12
            self.assertIs(is_standing(store, books, torn), False)
            self.assertRaises(Torn, stand, store, books, torn)

    def test_bent_books(self):
        for store, _, states, _ in self.runs():
            books = [list(book) for book in states[-1]]
            books[3] = books[3][::-1]
            found = faults(store, books)
            fault = book_fault(store, books)
            self.assertIn(fault, found)
            self.assertIs(is_book_fault(store, books, fault), True)
            with self.assertRaises(Faulty):
                earliest(store, books)

    def test_looks(self):
        for store, _, states, looks in self.runs():
            self.assertEqual((is_looks(store, looks), is_looks(store, looks + looks[:1])), (True, False))
            for house in range(16):
                self.assertEqual(arrows(store, looks, house), told_arrows(store, looks, house))
            self.assertEqual((picture(store, looks), looks_fit(store, looks)), (None, True))
            told = history(store, looks)
            self.assertTrue(keeps_all(store, looks, told))
            self.assertIs(is_history(store, looks, told), True)
            self.assertIs(is_fitting(store, looks, states[-1]), True)
            ten = looks + looks[:1]
            self.refuses_given(InvalidLooks, ten, history, store, ten)

    def test_looks_that_tell_all(self):
        for store, _, states, _ in self.runs():
            looks = [Look(house, [[write] for write in states[-1][house]], moment=9) for house in range(0, 16, 2)]
            self.assertIs(looks_fit(store, looks), True)
            told = history(store, looks)
            self.assertTrue(keeps_all(store, looks, told))
            self.assertEqual([tuple(told[0][house]) for house in range(0, 16, 2)], list(states[-1][::2]))
            bent = looks + [Look(1, [[write] for write in states[-1][1][::-1]], moment=9)]
            shown = picture(store, bent)
            self.assertIs(is_picture(store, bent, shown), True)
            with self.assertRaises(DoNotFit):
                history(store, bent)
            self.assertEqual(len(borders(bent[-1])), 12)

    def test_count_look(self):
        store = Store(BUSH, [7] * 12)
        self.assertEqual(count_look(store, 15, [0] * 7 + [12] + [0] * 8).come, tuple(range(12)))

    def test_numbers_of_twenty_digits(self):
        far = 10 ** 20 - 1
        store = Store(line_tree(16), [0] * 12)
        looks = [Look(0, [[0]], moment=-far), Look(15, [[0, 1]], moment=far), Look(3, [[0]], moment=far)]
        self.assertIs(looks_fit(store, looks), False)
        self.assertTrue(keeps_all(store, looks[:2], history(store, looks[:2])))
        self.assertIs(is_looks(store, [Look(far, [])]), False)
        books = [list(range(12))] * 16
        self.assertIs(is_moments(store, books, [[far + house * 12 + at for at in range(12)] for house in range(16)]), True)


if __name__ == "__main__":
    unittest.main()
