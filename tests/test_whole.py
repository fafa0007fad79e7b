"""Points 113 and 114: histories in which just the least or the greatest lots have come everywhere at once."""

import random
import unittest

from looksleft.errors import DoNotFit, InvalidLooks, NoMoment
from looksleft.looks import Look
from looksleft.pictures import is_picture
from looksleft.running import Running
from looksleft.stores import Store
from looksleft.trees import Tree
from looksleft.whole import is_past_history, past_history, resume
from tests import brute, cases
from tests.test_histories import keeps_all
from tests.tools import LooksleftCase, line_tree, odd_values, star_tree

STORE = Store(line_tree(2), [0, 1])
LOOKS = [Look(0, [[0]], moment=5)]
STAR = Store(star_tree(4), [1, 2, 3])
UNFIT = [Look(0, [[0]], moment=1), Look(0, [], moment=2)]
BOOKS = [[0, 1], [0, 1]]
SCRIPT = [("make", 0), ("hand", 0, 1), ("make", 1), ("hand", 1, 0)]


def all_moments(looks):
    return sorted({look.moment for look in looks if look.moment is not None})


def told_lots(search, looks, greatest):
    """For each moment of the looks, for each house, the least or the greatest lot, by all histories and their places."""
    found = {}
    for moment in all_moments(looks):
        lots = [[set(book) for book in books] for books in zip(*search.cuts(looks, moment))]
        found[moment] = [set().union(*some) if greatest else set(some[0]).intersection(*some) for some in lots]
    return found


def keeps_past(store, looks, told, lots):
    """Whether books, a script and stops keep the words of the document, seen deed by deed."""
    books, script, stops = told
    states = brute.states_of(store, script)
    if states is None or brute.deeds(store, states[-1]) or list(map(list, books)) != list(map(list, states[-1])):
        return False
    if not all(brute.may_begin(look, states[-1][look.house]) for look in looks):
        return False
    if [moment for moment, _ in stops] != sorted(lots) or [place for _, place in stops] != sorted(place for _, place in stops):
        return False
    if not all(0 <= place < len(states) for _, place in stops):
        return False
    # The looks have their places at the stops.
    place_of = dict(stops)
    places = [place_of.get(look.moment) for look in looks]
    lots_kept = all([set(book) for book in states[place]] == lots[moment] for moment, place in stops)
    return lots_kept and keeps_all(store, looks, (books, script, places))


def right_places(states, lots):
    """For each moment the places of a history where just its lots have come."""
    return {moment: [at for at, state in enumerate(states) if [set(book) for book in state] == told]
            for moment, told in lots.items()}


def bent_stops(stops, chooser):
    """Lists of stops that are near to the given ones; some of them may be right."""
    yield list(stops)
    if stops:
        at = chooser.randrange(len(stops))
        moment, place = stops[at]
        yield stops[:at] + stops[at + 1:]
        yield stops[:at] + [stops[at]] + stops[at:]
        for step in (-1, 1):
            yield stops[:at] + [(moment, place + step)] + stops[at + 1:]
            yield stops[:at] + [(moment + step, place)] + stops[at + 1:]
            yield stops[:at] + [(moment, -1 - place)] + stops[at + 1:]
        yield stops[::-1]
        other = chooser.randrange(len(stops))
        yield stops[:at] + [(moment, stops[other][1])] + stops[at + 1:]


class TestPastHistory(LooksleftCase):

    def test_against_all_histories(self):
        kinds = set()
        for search, looks, _ in cases.fitting_looks(113, 400, 20):
            for greatest in (False, True):
                lots = told_lots(search, looks, greatest)
                told = past_history(search.store, looks, greatest=greatest)
                self.assertEqual((type(told), [type(part) for part in told]), (tuple, [list] * 3))
                self.assertEqual({type(stop) for stop in told[2]} - {tuple}, set())
                self.assertTrue(keeps_past(search.store, looks, told, lots))
                self.assertIs(is_past_history(search.store, looks, told, greatest=greatest), True)
                other = told_lots(search, looks, not greatest)
                self.assertIs(is_past_history(search.store, looks, told, greatest=not greatest), lots == other)
                kinds.add((len(told[2]) > 1, greatest, lots == other, len({place for _, place in told[2]}) < len(told[2])))
        self.assertGreater(len(kinds), 10)

    def test_one_stop_for_each_different_moment(self):
        looks = [Look(1, [[0]], moment=7), Look(0, [[0]], moment=5), Look(0, [[0]], moment=5), Look(1, [], moment=-2), Look(1, [[0]])]
        self.assertEqual(past_history(STORE, looks)[2], [(-2, 0), (5, 1), (7, 2)])
        self.assertEqual(past_history(STORE, looks, greatest=False)[2], [(-2, 0), (5, 1), (7, 2)])
        self.assertEqual(past_history(STORE, looks, greatest=True)[2], [(-2, 1), (5, 2), (7, 2)])

    def test_two_stops_at_one_place(self):
        looks = [Look(0, [[0]], moment=3), Look(0, [[0]], moment=4)]
        self.assertEqual(past_history(STORE, looks)[2], [(3, 1), (4, 1)])
        self.assertEqual(past_history(STORE, looks, greatest=True)[2], [(3, 3), (4, 3)])
        self.assertIs(is_past_history(STORE, looks, (BOOKS, SCRIPT, [(3, 1), (4, 1)])), True)
        self.assertIs(is_past_history(STORE, looks, (BOOKS, SCRIPT, [(3, 1)])), False)

    def test_no_looks_and_looks_without_moments(self):
        for looks in ([], [Look(0, [[0]]), Look(1, [])]):
            for greatest in (False, True):
                told = past_history(STORE, looks, greatest=greatest)
                self.assertTrue(keeps_past(STORE, looks, told, {}))
                self.assertEqual(told[2], [])
                self.assertIs(is_past_history(STORE, looks, (BOOKS, SCRIPT, []), greatest=greatest), True)
                self.assertIs(is_past_history(STORE, looks, (BOOKS, SCRIPT, ()), greatest=greatest), True)
                self.assertIs(is_past_history(STORE, looks, (BOOKS, SCRIPT, [(5, 1)]), greatest=greatest), False)
        empty = Store(line_tree(3), [])
        looks = [Look(1, [], moment=4), Look(2, [])]
        self.assertEqual(past_history(empty, looks), ([[], [], []], [], [(4, 0)]))
        self.assertEqual(past_history(empty, looks, greatest=True), ([[], [], []], [], [(4, 0)]))

    def test_far_moments(self):
        far = 10 ** 20 - 1
        looks = [Look(1, [[0]], moment=far), Look(1, [], moment=-far)]
        self.assertEqual(past_history(STORE, looks)[2], [(-far, 0), (far, 2)])


class TestIsPastHistory(LooksleftCase):

    def test_own_histories_and_bent_ones(self):
        chooser = random.Random(114)
        seen = []
        for search, looks, ends in cases.fitting_looks(114, 250, 15):
            for greatest in (False, True):
                lots = told_lots(search, looks, greatest)
                for _ in range(2):
                    books = chooser.choice(sorted(ends))
                    script = brute.chance_script(search.store, chooser, books)
                    places = right_places(brute.states_of(search.store, script), lots)
                    stops = [(moment, chooser.choice(found or [len(script)])) for moment, found in sorted(places.items())]
                    for bent in bent_stops(stops, chooser):
                        seen.append(self.check(search.store, looks, (list(books), script, bent), lots, greatest))
        self.assertGreater(min(seen.count(True), seen.count(False)), 200)

    def check(self, store, looks, told, lots, greatest):
        expected = keeps_past(store, looks, told, lots)
        self.assertIs(is_past_history(store, looks, told, greatest=greatest), expected)
        books, script, stops = told
        self.assertIs(is_past_history(store, looks, (tuple(books), tuple(script), tuple(stops)), greatest=greatest), expected)
        return expected

    def test_a_script_of_another_history_with_the_same_books(self):
        chooser = random.Random(115)
        seen = []
        for search, looks, _ in cases.fitting_looks(115, 250, 15):
            for greatest in (False, True):
                lots = told_lots(search, looks, greatest)
                books, script, stops = past_history(search.store, looks, greatest=greatest)
                for _ in range(3):
                    other = brute.chance_script(search.store, chooser, books)
                    seen.append(self.check(search.store, looks, (books, other, stops), lots, greatest))
                if script:
                    # The deed behind a stop done ahead of it, and the other way round, where this can be done.
                    at = chooser.randrange(len(script))
                    moved = script[:at] + script[at + 1:at + 2] + script[at:at + 1] + script[at + 2:]
                    seen.append(self.check(search.store, looks, (books, moved, stops), lots, greatest))
        self.assertGreater(min(seen.count(True), seen.count(False)), 100)

    def test_values_that_are_none(self):
        right = (BOOKS, SCRIPT, [(5, 1)])
        self.assertIs(is_past_history(STORE, LOOKS, right), True)
        self.assertIs(is_past_history(STORE, tuple(LOOKS), (((0, 1), [0, 1]), tuple(SCRIPT), ((5, 1),))), True)
        wrong = [list(right), right[:2], right + ([],), (BOOKS, SCRIPT, [[5, 1]]), (BOOKS, SCRIPT, [(5, 1, 1)]), (BOOKS, SCRIPT, [(5,)]),
                 (BOOKS, SCRIPT, (5, 1)), (BOOKS, SCRIPT, [(5, True)]), (BOOKS, SCRIPT, [(5, "1")]), (BOOKS, SCRIPT, [("5", 1)]),
                 (BOOKS, SCRIPT, [(5, None)]), (BOOKS, SCRIPT, [None]), (BOOKS, SCRIPT, None), (BOOKS, SCRIPT, {5: 1}), (BOOKS, SCRIPT, [5]),
                 (BOOKS, SCRIPT, []), (BOOKS, SCRIPT, [(5, 1), (5, 1)]), (BOOKS, SCRIPT, [(4, 1)]), (BOOKS, SCRIPT, [(5, 0)]),
                 (BOOKS, SCRIPT, [(5, 2)]), (BOOKS, SCRIPT, [(5, -3)]), (BOOKS, SCRIPT, [(5, 5)]), (BOOKS, SCRIPT, [(5, -4)]),
                 (BOOKS, SCRIPT[:3], [(5, 1)]), (BOOKS, [], [(5, 1)]), (BOOKS, [list(deed) for deed in SCRIPT], [(5, 1)]),
                 (BOOKS, None, [(5, 1)]), (BOOKS, SCRIPT[::-1], [(5, 1)]), (BOOKS, SCRIPT + SCRIPT, [(5, 1)]), (BOOKS, SCRIPT * 101, [(5, 1)]),
                 ([[0, 1], [1, 0]], SCRIPT, [(5, 1)]), ([[0, True], [0, 1]], SCRIPT, [(5, 1)]), ([[0, 1]], SCRIPT, [(5, 1)]),
                 (None, SCRIPT, [(5, 1)]), (SCRIPT, BOOKS, [(5, 1)]), (STORE, STORE, STORE), (Look(0, []), SCRIPT, [(5, 1)]),
                 (BOOKS, [("make", False)] + SCRIPT[1:], [(5, 1)]), (BOOKS, SCRIPT, [(5, Look(0, []))]), (BOOKS, SCRIPT, [(Look(0, []), 1)])]
        for value in wrong + odd_values():
            self.assertIs(is_past_history(STORE, LOOKS, value), False, value)
            self.assertIs(is_past_history(STORE, LOOKS, value, greatest=True), False, value)
        first = [Look(0, [[0]], moment=1)]
        self.assertIs(is_past_history(STORE, first, (BOOKS, SCRIPT, [(1, 1)])), True)
        for stop in ((True, 1), (1, True), (True, True), [1, 1]):
            self.assertIs(is_past_history(STORE, first, (BOOKS, SCRIPT, [stop])), False, stop)
        zeroth = [Look(0, [], moment=0)]
        self.assertIs(is_past_history(STORE, zeroth, (BOOKS, SCRIPT, [(0, 0)])), True)
        self.assertIs(is_past_history(STORE, zeroth, (BOOKS, SCRIPT, [(False, 0)])), False)
        self.assertIs(is_past_history(STORE, zeroth, (BOOKS, SCRIPT, [(0, False)])), False)


class TestResume(LooksleftCase):

    def timed(self, looks):
        return [Look(look.house, look.lots, moment=at if look.moment is None else look.moment) for at, look in enumerate(looks)]

    def test_whatever_follows(self):
        chooser = random.Random(116)
        many = 0
        for search, looks in cases.some_looks(116, 900):
            looks = self.timed(looks) if chooser.random() < 0.5 else looks
            if any(look.moment is None for look in looks) or not search.ends(looks):
                continue
            many += 1
            lots = told_lots(search, looks, False)
            running, places = resume(search.store, looks)
            self.assertEqual((type(running), type(places), len(places)), (Running, list, len(looks)))
            self.assertTrue(running.store == search.store)
            here = lots[max(lots)] if lots else [set()] * search.store.tree.houses
            self.check_state(running, here)
            for _ in range(3):
                self.go_on(search.store, looks, resume(search.store, looks), chooser)
        self.assertGreater(many, 200)

    def check_state(self, running, lots):
        """The books, the copies and what is under way are those behind the script, where just the lots have come."""
        state = brute.states_of(running.store, running.script)[-1]
        houses = range(running.store.tree.houses)
        self.assertEqual([set(book) for book in state], list(lots))
        self.assertEqual(tuple(running.book(house) for house in houses), state)
        for house in houses:
            last = [[write for write in state[house] if running.store.cells[write] == cell] for cell in range(6)]
            self.assertEqual(running.shows(house), tuple(some[-1] if some else None for some in last))
            for other in brute.near(running.store)[house]:
                self.assertEqual(list(running.under_way(house, other)), brute.waiting(running.store, state, house, other))
        self.assertIs(running.finished, not brute.deeds(running.store, state))

    def go_on(self, store, looks, told, chooser):
        """Do drawn deeds to the end; the script is then that of a history that fits, with the places told."""
        running, places = told
        before = running.script
        state = tuple(running.book(house) for house in range(store.tree.houses))
        while brute.deeds(store, state):
            deed, state = chooser.choice(brute.deeds(store, state))
            getattr(running, deed[0])(*deed[1:])
        self.assertIs(running.finished, True)
        self.assertEqual(running.script[:len(before)], before)
        self.assertTrue(keeps_all(store, looks, (list(state), list(running.script), places)))

    def test_two_runnings_of_two_calls_go_on_apart(self):
        looks = [Look(2, [[0], [1]], moment=3), Look(1, [[0]], moment=1)]
        (one, places), (two, others) = resume(STAR, looks), resume(STAR, looks)
        self.assertEqual((one.script, places), (two.script, others))
        before = two.script
        one.settle()
        one.make(3)
        places.clear()
        self.assertEqual((two.script, two.finished), (before, False))
        self.assertEqual(resume(STAR, looks)[1], others)
        chooser = random.Random(117)
        self.go_on(STAR, looks, (two, others), chooser)
        self.assertEqual(one.script[:len(before)], before)

    def test_no_looks(self):
        for store in (STORE, STAR, Store(Tree(1, []), [0]), Store(line_tree(3), [])):
            running, places = resume(store, [])
            self.assertEqual((running.script, places), ((), []))
            self.assertEqual(running.book(0), ())

    def test_places_of_looks(self):
        looks = [Look(1, [[0]], moment=7), Look(0, [[0]], moment=5), Look(0, [[0]], moment=5), Look(1, [], moment=-2)]
        running, places = resume(STORE, looks)
        self.assertEqual((running.script, places), (tuple(SCRIPT[:2]), [2, 1, 1, 0]))
        running, places = resume(STORE, [Look(1, [], moment=9)] * 9)
        self.assertEqual((running.script, places), ((), [0] * 9))

    def test_no_moment(self):
        timed, bare = Look(0, [[0]], moment=5), Look(0, [[0]])
        for looks, at in (([bare], 0), ([timed, bare], 1), ([timed, bare, bare], 1), ((timed, timed, bare, timed), 2), ([timed] * 8 + [bare], 8)):
            self.refuses(NoMoment, {"look": at}, resume, STORE, looks)
        self.assertEqual(resume(STORE, [Look(0, [], moment=0)])[1], [0])


class TestErrors(LooksleftCase):

    def calls(self, store, looks):
        return [(past_history, (store, looks)), (is_past_history, (store, looks, None)), (resume, (store, looks))]

    def test_looks_first(self):
        self.refuses_wrong_looks(lambda wrong: self.calls(STAR, wrong))

    def test_looks_that_do_not_fit(self):
        lists = [*cases.unfit_looks(118, 80), (STORE, UNFIT), (STORE, [Look(0, [])] + UNFIT)]
        self.refuses_unfit_looks(lists, self.calls)
        for function in (past_history, is_past_history):
            args = (STORE, UNFIT) if function is past_history else (STORE, UNFIT, None)
            with self.assertRaises(DoNotFit) as caught:
                function(*args, greatest=True)
            self.assertIs(is_picture(STORE, UNFIT, caught.exception.picture), True)
        wrong = [Look(0, [])] * 10
        self.refuses_given(InvalidLooks, wrong, resume, STORE, wrong)


class TestArguments(LooksleftCase):

    def test_by_position_and_by_name(self):
        told = self.same(past_history, ["store", "looks"], [STORE, LOOKS])
        self.assertEqual(told, (BOOKS, SCRIPT, [(5, 1)]))
        self.assertIs(self.same(is_past_history, ["store", "looks", "value"], [STORE, LOOKS, told]), True)
        running, places = self.same(resume, ["store", "looks"], [STORE, LOOKS])
        self.assertEqual((running.script, places), (tuple(SCRIPT[:1]), [1]))
        with self.assertRaises(TypeError):
            past_history(STORE, LOOKS, True)
        with self.assertRaises(TypeError):
            is_past_history(STORE, LOOKS, told, True)

    def test_answers_are_new_and_a_list_that_changes(self):
        looks = list(LOOKS)
        told = past_history(STORE, looks)
        for part in told[0] + list(told):
            part.clear()
        self.assertEqual(past_history(STORE, looks), (BOOKS, SCRIPT, [(5, 1)]))
        self.assertEqual(past_history(STORE, tuple(looks)), (BOOKS, SCRIPT, [(5, 1)]))
        looks.append(Look(1, [[0]], moment=6))
        self.assertEqual(past_history(STORE, looks)[2], [(5, 1), (6, 2)])
        self.assertEqual(resume(STORE, looks)[1], [1, 2])

    def test_equal_answers_for_equal_objects_behind_other_calls(self):
        lists = [(search.store, looks) for search, looks, _ in cases.fitting_looks(119, 150)]
        first = [(past_history(*told), past_history(*told, greatest=True)) for told in lists]
        for (store, looks), answer in reversed(list(zip(lists, first))):
            store, looks = cases.equal_ones(store, looks)
            self.assertEqual((past_history(store, looks), past_history(store, looks, greatest=True)), answer)
            if all(look.moment is not None for look in looks):
                self.assertEqual(resume(store, looks)[0].script, resume(store, list(looks))[0].script)


if __name__ == "__main__":
    unittest.main()
