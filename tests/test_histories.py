"""Points 55 and 56: books and histories that fit looks."""

import random
import unittest

from looksleft.errors import DoNotFit, InvalidLooks
from looksleft.histories import history, is_fitting, is_history
from looksleft.looks import Look
from looksleft.pictures import is_picture, picture
from looksleft.running import Running, run
from looksleft.stores import Store
from looksleft.trees import Tree
from tests import brute, cases
from tests.tools import LooksleftCase, line_tree, odd_values, star_tree

STORE = Store(line_tree(2), [0, 1])
LOOKS = [Look(1, [[0]], moment=5), Look(0, [[0]])]
ONLY = ([[0, 1], [0, 1]], [("make", 0), ("hand", 0, 1), ("make", 1), ("hand", 1, 0)], [2, None])


def keeps_all(store, looks, told):
    """Whether books, a script and places keep the words of the document, seen deed by deed."""
    books, script, places = told
    state = brute.start(store)
    states = [state]
    for deed in script:
        further = dict(brute.deeds(store, state))
        if deed not in further:
            return False
        state = further[deed]
        states.append(state)
    if brute.deeds(store, state) or [list(book) for book in state] != [list(book) for book in books]:
        return False
    if not all(brute.may_begin(look, state[look.house]) for look in looks) or len(places) != len(looks):
        return False
    for look, place in zip(looks, places):
        if (place is None) != (look.moment is None):
            return False
        if place is not None and set(states[place][look.house]) != brute.come(look):
            return False
    timed = sorted((look.moment, place) for look, place in zip(looks, places) if place is not None)
    return all(place <= later and (moment < other or place == later)
               for (moment, place), (other, later) in zip(timed, timed[1:]))


class TestFitting(LooksleftCase):

    def test_against_all_histories(self):
        for search, looks in cases.some_looks(31, 300):
            free = search.ends(looks, minded=False)
            for end in search.last:
                self.assertIs(is_fitting(search.store, looks, end), end in free)
                self.assertIs(is_fitting(search.store, looks, [list(book) for book in end]), end in free)

    def test_books_with_faults_and_other_values(self):
        store, looks = Store(line_tree(3), [0, 2, 0]), [Look(1, [[0]], moment=5)]
        self.assertIs(is_fitting(store, looks, [[0, 1, 2], [0, 1, 2], [1, 0, 2]]), True)
        for books in ([[0, 1, 2], [0, 1, 2], [1, 2, 0]], [[2, 1, 0], [0, 1, 2], [1, 0, 2]], [[0, 1, 2], [1, 0, 2], [1, 0, 2]],
                      [[0, 1, 2], [0, 1, 2]], [[0, 1, 2], [0, 1, 2], [1, 0]], [[0, 1, 2], [0, True, 2], [1, 0, 2]]):
            self.assertIs(is_fitting(store, looks, books), False)
        for value in odd_values():
            self.assertIs(is_fitting(store, looks, value), False, value)

    def test_books_may_fit_though_the_looks_do_not(self):
        looks = [Look(0, [[0]], moment=1), Look(0, [], moment=2)]
        self.assertIsNotNone(picture(STORE, looks))
        self.assertIs(is_fitting(STORE, looks, [[0, 1], [1, 0]]), True)
        self.assertIs(is_fitting(STORE, looks, [[1, 0], [1, 0]]), False)


class TestHistory(LooksleftCase):

    def test_histories_keep_every_look(self):
        many = 0
        for search, looks in cases.some_looks(32, 2500):
            shown = picture(search.store, looks)
            if shown is not None:
                with self.assertRaises(DoNotFit) as caught:
                    history(search.store, looks)
                self.assertEqual(list(vars(caught.exception)), ["picture"])
                self.assertIs(is_picture(search.store, looks, caught.exception.picture), True)
                continue
            many += 1
            told = history(search.store, looks)
            self.assertEqual((type(told), [type(part) for part in told]), (tuple, [list] * 3))
            self.assertTrue(keeps_all(search.store, looks, told), (search.store.line(), looks))
            self.assertIn(tuple(tuple(book) for book in told[0]), search.ends(looks))
            self.assertIs(is_history(search.store, looks, told), True)
        self.assertGreater(many, 1000)

    def test_stores_that_are_too_great_for_a_search(self):
        chooser = random.Random(35)
        for _ in range(200):
            store, looks = cases.middle_case(chooser)
            self.assertEqual(picture(store, looks), None)
            told = history(store, looks)
            self.assertTrue(keeps_all(store, looks, told), (store.line(), looks))
            self.assertIs(is_history(store, looks, told), True)

    def test_none_for_looks_without_a_moment(self):
        looks = [Look(1, [[0]]), Look(1, [[0]], moment=0), Look(0, [])]
        self.assertEqual(history(STORE, looks)[2], [None, 2, None])
        self.assertEqual(history(STORE, LOOKS), ONLY)
        self.assertEqual(history(STORE, [])[2], [])
        self.assertEqual(history(Store(line_tree(3), []), [Look(1, [], moment=4), Look(2, [])]), ([[], [], []], [], [0, None]))

    def test_do_not_fit(self):
        looks = [Look(0, [[1]], moment=1), Look(1, [], moment=1)]
        self.refuses(DoNotFit, {"picture": ("time", 1, 0, 1)}, history, STORE, looks)
        wrong = looks + [Look(2, [])]
        self.refuses_given(InvalidLooks, wrong, history, STORE, wrong)


class TestIsHistory(LooksleftCase):

    def test_all_scripts_of_small_stores(self):
        for store in (STORE, Store(line_tree(2), [1, 0, 1]), Store(line_tree(3), [0, 2])):
            histories = list(brute.Search(store).histories())
            chooser = random.Random(33)
            for _ in range(40):
                search = brute.Search(store)
                looks = cases.looks_of_one_history(chooser, search)
                for script, states in chooser.sample(histories, min(12, len(histories))):
                    places = [None if look.moment is None else chooser.choice(self.fair(states, look)) for look in looks]
                    told = (list(states[-1]), script, places)
                    self.assertIs(is_history(store, looks, told), keeps_all(store, looks, told))

    def fair(self, states, look):
        """The places where just the writes of the look had come, or any place if there is none."""
        right = [at for at, state in enumerate(states) if set(state[look.house]) == brute.come(look)]
        return right or [0, len(states) - 1]

    def test_bent_values(self):
        books, script, places = ONLY
        self.assertIs(is_history(STORE, LOOKS, ONLY), True)
        self.assertIs(is_history(STORE, tuple(LOOKS), (tuple(map(tuple, books)), tuple(script), tuple(places))), True)
        wrong = [list(ONLY), ONLY[:2], ONLY + ([],), (books, script, [2]), (books, script, [2, None, None]), (books, script, [2, 0]),
                 (books, script, [None, None]), (books, script, [1, None]), (books, script, [3, None]), (books, script, [4, None]),
                 (books, script, [-2, None]), (books, script, [5, None]), (books, script, [True, None]), (books, script, ["2", None]),
                 (books, script, [2, False]), (books, script, {2: None}), (books, script, None), (books, script[:3], places),
                 (books, [], places), (books, script + [("make", 0)], places), (books, [list(deed) for deed in script], places),
                 (books, script[::-1], places), (books, None, places), (books, script[:1] + [("make", False)] + script[2:], places),
                 ([[0, 1], [1, 0]], script, places), ([[0, 1]], script, places), (None, script, places),
                 (books, [("make", 0), ("make", 1), ("hand", 0, 1), ("hand", 1, 0)], places), (places, script, books),
                 ([[0, True], [0, 1]], script, places), (books, script * 101, places), (STORE, STORE, STORE)]
        for value in wrong + odd_values():
            self.assertIs(is_history(STORE, LOOKS, value), False, value)

    def test_places_rise_with_moments(self):
        looks = [Look(0, [[0]], moment=1), Look(0, [[0]], moment=2), Look(0, [[0]], moment=2)]
        books, script, _ = ONLY
        for places in ([1, 1, 1], [1, 2, 2], [1, 3, 3], [3, 3, 3], (2, 3, 3)):
            self.assertIs(is_history(STORE, looks, (books, script, places)), True)
        for places in ([2, 1, 1], [1, 2, 3], [1, 3, 2], [1, 1, 2], [0, 1, 1], [3, 4, 4], [1, 1, None], [1, 1]):
            self.assertIs(is_history(STORE, looks, (books, script, places)), False)

    def test_places_below_0_and_behind_the_script(self):
        books, script, _ = ONLY
        for look, place in ((Look(0, [[0]], moment=1), -1), (Look(0, [[0], [1]], moment=1), 5), (Look(1, [], moment=1), -3)):
            self.assertIs(is_history(STORE, [look], (books, script, [place])), False)
        self.assertIs(is_history(STORE, [Look(0, [[0], [1]], moment=1)], (books, script, [4])), True)
        self.assertIs(is_history(STORE, [Look(1, [], moment=1)], (books, script, [0])), True)

    def test_looks_that_do_not_fit_have_no_history(self):
        looks = [Look(0, [[0]], moment=1), Look(0, [], moment=1)]
        self.assertIs(is_history(STORE, looks, (ONLY[0], ONLY[1], [1, 0])), False)
        self.assertIs(is_history(STORE, looks, (ONLY[0], ONLY[1], [1, 1])), False)

    def test_errors(self):
        wrong = LOOKS * 5
        self.refuses_given(InvalidLooks, wrong, is_history, STORE, wrong, ONLY)
        self.refuses_given(InvalidLooks, wrong, is_fitting, STORE, wrong, ONLY[0])


class TestArguments(LooksleftCase):

    def test_by_position_and_by_name(self):
        self.assertEqual(self.same(history, ["store", "looks"], [STORE, LOOKS]), ONLY)
        self.assertIs(self.same(is_history, ["store", "looks", "value"], [STORE, LOOKS, ONLY]), True)
        self.assertIs(self.same(is_fitting, ["store", "looks", "value"], [STORE, LOOKS, ONLY[0]]), True)
        self.assertEqual(history(STORE, tuple(LOOKS)), ONLY)

    def test_changing_an_answer_changes_no_later_one(self):
        told = history(STORE, LOOKS)
        told[0][0].clear()
        for part in told:
            part.clear()
        self.assertEqual(history(STORE, LOOKS), ONLY)

    def test_equal_answers_behind_other_calls(self):
        lists = [(search.store, looks) for search, looks in cases.some_looks(34, 200) if picture(search.store, looks) is None]
        first = [history(*told) for told in lists]
        for (store, looks), answer in reversed(list(zip(lists, first))):
            store = Store(Tree(store.tree.houses, list(store.tree.roads)), list(store.homes), cells=list(store.cells))
            looks = tuple(Look(look.house, look.lots, moment=look.moment) for look in looks)
            self.assertEqual(history(store, looks), answer)

    def test_one_look_in_two_stores_and_a_list_that_changes(self):
        look = Look(0, [[1]], moment=3)
        stores = [Store(star_tree(3), [1, 2]), Store(star_tree(3), [0, 1, 0])]
        looks = [look]
        self.assertIs(is_history(stores[0], looks, history(stores[0], looks)), True)
        self.assertIs(is_history(stores[1], looks, history(stores[1], looks)), True)
        looks.append(Look(1, [], moment=3))
        self.assertIs(is_history(stores[0], looks, history(stores[0], looks)), True)
        self.assertRaises(DoNotFit, history, stores[1], looks)
        self.assertTrue(look == Look(0, [[1]], moment=3))

    def test_the_script_of_a_history_runs(self):
        running = run(STORE, history(STORE, LOOKS)[1])
        self.assertEqual((type(running), running.finished, running.book(0)), (Running, True, (0, 1)))


if __name__ == "__main__":
    unittest.main()
