"""Points 34 to 36: running."""

import random
import unittest

from looksleft.errors import InvalidHouse, InvalidScript, NotARoad, NothingToMake, NothingUnderWay, Stopped
from looksleft.running import Running, is_script, run
from looksleft.stores import Store
from looksleft.trees import Tree
from tests import brute
from tests.tools import LooksleftCase, line_tree, odd_values, star_tree

WRONG_HOUSES = (-1, 3, 10 ** 19, True, False, None, "0", [], [0], (0,), {})


def told(running):
    """All that a running tells."""
    houses = range(running.store.tree.houses)
    roads = [(u, v) for road in running.store.tree.roads for u, v in (road, road[::-1])]
    return ([running.book(house) for house in houses], [running.shows(house) for house in houses],
            [running.under_way(u, v) for u, v in roads], running.finished, running.script)


class TestRunning(LooksleftCase):

    def test_beginning(self):
        store = Store(line_tree(3), [2, 0, 2])
        for running in (Running(store), Running(store=store)):
            self.assertTrue(running.store == store)
            self.assertEqual(told(running), ([()] * 3, [(None,) * 6] * 3, [()] * 4, False, ()))
            self.assertEqual(running.settle(), 0)
        self.assertIs(Running(Store(line_tree(3), [])).finished, True)
        self.assertIs(Running(Store(Tree(1, []), [])).finished, True)

    def test_deeds_and_what_is_under_way(self):
        running = Running(Store(line_tree(3), [2, 0, 2], cells=[1, 5, 1]))
        self.assertEqual([running.make(2), running.make(2), running.make(0)], [0, 2, 1])
        self.assertEqual((running.under_way(2, 1), running.under_way(1, 2), running.under_way(0, 1)), ((0, 2), (), (1,)))
        self.assertEqual([running.hand(2, 1), running.hand(0, 1), running.hand(2, 1)], [0, 1, 2])
        self.assertEqual([running.book(house) for house in range(3)], [(1,), (0, 1, 2), (0, 2)])
        self.assertEqual((running.under_way(1, 0), running.under_way(1, 2), running.under_way(2, 1)), ((0, 2), (1,), ()))
        self.assertEqual(running.shows(1), (None, 2, None, None, None, 1))
        self.assertEqual(running.shows(0), (None, None, None, None, None, 1))
        self.assertIs(running.finished, False)
        self.assertEqual(running.hand(1, 2), 1)
        self.assertEqual([running.hand(1, 0), running.finished, running.hand(1, 0), running.finished], [0, False, 2, True])
        self.assertEqual(running.shows(0), (None, 2, None, None, None, 1))
        self.assertEqual(running.script, (("make", 2), ("make", 2), ("make", 0), ("hand", 2, 1), ("hand", 0, 1),
                                          ("hand", 2, 1), ("hand", 1, 2), ("hand", 1, 0), ("hand", 1, 0)))
        self.assertIs(type(running.finished), bool)

    def test_one_house(self):
        running = Running(Store(Tree(1, []), [0, 0], cells=[0, 3]))
        self.assertEqual([running.make(0), running.finished, running.make(0), running.finished], [0, False, 1, True])
        self.assertEqual((running.book(0), running.shows(0), running.settle()), ((0, 1), (0, None, None, 1, None, None), 0))
        self.refuses(NothingToMake, {"house": 0}, running.make, 0)
        self.refuses(NotARoad, {"u": 0, "v": 0}, running.hand, 0, 0)

    def test_by_name(self):
        running = Running(Store(line_tree(3), [2, 0, 2]))
        self.assertEqual((running.make(house=2), running.hand(u=2, v=1), running.hand(v=0, u=1)), (0, 0, 0))
        self.assertEqual((running.book(house=0), running.under_way(u=2, v=1), running.shows(house=0)[0]), ((0,), (), 0))
        self.assertTrue(Running(store=running.store).store == running.store)

    def test_refused_deeds_change_nothing(self):
        running = Running(Store(line_tree(3), [2, 0, 2]))
        running.make(2)
        running.hand(2, 1)
        before = told(running)
        for value in WRONG_HOUSES:
            self.refuses_given(InvalidHouse, value, running.make, value)
            self.refuses_given(InvalidHouse, value, running.book, value)
            self.refuses_given(InvalidHouse, value, running.shows, value)
            for ask in (running.hand, running.under_way):
                self.refuses_given(InvalidHouse, value, ask, value, 0)
                self.refuses_given(InvalidHouse, value, ask, value, "later")
                self.refuses_given(InvalidHouse, value, ask, 0, value)
        for u, v in ((0, 2), (2, 0), (1, 1)):
            self.refuses(NotARoad, {"u": u, "v": v}, running.hand, u, v)
            self.refuses(NotARoad, {"u": u, "v": v}, running.under_way, u, v)
        self.refuses(NothingToMake, {"house": 1}, running.make, 1)
        for u, v in ((2, 1), (1, 2), (0, 1)):
            self.refuses(NothingUnderWay, {"u": u, "v": v}, running.hand, u, v)
        self.assertEqual(told(running), before)
        self.assertEqual([running.hand(1, 0), running.make(2), running.make(0)], [0, 2, 1])
        self.refuses(NothingToMake, {"house": 2}, running.make, 2)

    def test_all_states_against_the_document(self):
        for store in (Store(line_tree(3), [2, 0, 2]), Store(star_tree(4), [1, 2]), Store(line_tree(2), [0, 1, 0])):
            search = brute.Search(store)
            chooser = random.Random(5)
            for _ in range(60):
                running, state = Running(store), search.first
                while search.table[state]:
                    self.check_state(running, store, state, [deed for deed, _ in search.table[state]])
                    deed, state = chooser.choice(search.table[state])
                    getattr(running, deed[0])(*deed[1:])
                self.check_state(running, store, state, [])

    def check_state(self, running, store, state, deeds):
        self.assertEqual(tuple(running.book(house) for house in range(store.tree.houses)), state)
        self.assertIs(running.finished, not deeds)
        for u, others in brute.near(store).items():
            for v in others:
                self.assertEqual(running.under_way(u, v), tuple(brute.waiting(store, state, u, v)))
                if ("hand", u, v) not in deeds:
                    self.refuses(NothingUnderWay, {"u": u, "v": v}, running.hand, u, v)
            if ("make", u) not in deeds:
                self.refuses(NothingToMake, {"house": u}, running.make, u)

    def test_settle(self):
        running = Running(Store(line_tree(4), [1, 3, 1]))
        running.make(1), running.make(3), running.make(1)
        self.assertEqual(running.settle(), 9)
        self.assertEqual(running.script[3:], (("hand", 1, 0), ("hand", 1, 0), ("hand", 1, 2), ("hand", 1, 2),
                                              ("hand", 2, 3), ("hand", 2, 3), ("hand", 3, 2), ("hand", 2, 1), ("hand", 1, 0)))
        self.assertEqual((running.settle(), running.finished, len(running.script)), (0, True, 12))

    def test_settle_takes_the_least_road_each_time(self):
        chooser = random.Random(7)
        for _ in range(30):
            store = Store(Tree(5, [(0, 1), (1, 2), (1, 3), (3, 4)]), [chooser.randrange(5) for _ in range(5)])
            running, state = Running(store), brute.start(store)
            for house in chooser.choices(store.homes, k=3):
                if any(deed == ("make", house) for deed, _ in brute.deeds(store, state)):
                    running.make(house)
                    state = dict(brute.deeds(store, state))[("make", house)]
            found = []
            while any(deed[0] == "hand" for deed, _ in brute.deeds(store, state)):
                deed, state = min(pair for pair in brute.deeds(store, state) if pair[0][0] == "hand")
                found.append(deed)
            made = len(running.script)
            self.assertEqual(running.settle(), len(found))
            self.assertEqual(list(running.script[made:]), found)

    def test_two_runnings_of_one_store(self):
        store = Store(line_tree(3), [2, 0, 2])
        first, second = Running(store), Running(store)
        first.make(2)
        self.assertEqual((second.script, second.book(2), second.under_way(2, 1)), ((), (), ()))
        self.assertEqual([second.make(0), first.make(2), second.make(2), first.hand(2, 1)], [1, 2, 0, 0])
        self.assertEqual((first.book(2), second.book(2), first.book(1), second.book(1)), ((0, 2), (0,), (0,), ()))
        self.assertEqual((store.homes, store.line()), ((2, 0, 2), "3: 0-1 1-2 / 2.0 0.0 2.0"))


class TestScripts(LooksleftCase):

    def test_is_script(self):
        store = Store(line_tree(3), [2, 0, 2])
        for value in ([], (), [("make", 0)], (("make", 2), ("hand", 2, 1)), [("hand", 0, 1)] * 9, [("make", 1)],
                      [("hand", 1, 0), ("hand", 1, 2), ("hand", 2, 1)]):
            self.assertIs(is_script(store, value), True)
        wrong_deeds = [None, True, 0, "make", [], (), ["make", 0], ["hand", 0, 1], ("make",), ("make", 3), ("make", -1),
                       ("make", True), ("make", None), ("make", "0"), ("make", [0]), ("make", 0, 1), ("hand", 0),
                       ("hand", 0, 2), ("hand", 0, 0), ("hand", 1, 3), ("hand", 3, 2), ("hand", False, 1), ("hand", 0, True),
                       ("hand", 0, 1, 0), ("Make", 0), (None, 0), (0, "make"), ("hand", "0", "1"), ("hand", (0, 1)),
                       {"make": 0}, store, (store, 0), ("make", store), (["make"], 0)]
        for deed in wrong_deeds:
            self.assertIs(is_script(store, [deed]), False, deed)
            self.assertIs(is_script(store, [("make", 0), deed]), False, deed)
            given = [("make", 1), deed]
            self.refuses_given(InvalidScript, given, run, store, given)
        for value in odd_values():
            if value not in ([], (), [("make", 0)], [("hand", 0, 1)]):
                self.assertIs(is_script(store, value), False, value)
                self.refuses_given(InvalidScript, value, run, store, value)

    def test_400_and_401_deeds(self):
        store = Store(line_tree(3), [2, 0, 2])
        for deeds in ([("make", 0)] * 400, (("make", 0),) * 400, [("hand", 1, 0)] * 400):
            self.assertIs(is_script(store, deeds), True)
        self.refuses(Stopped, {"at": 1}, run, store, [("make", 0)] * 400)
        for deeds in ([("make", 0)] * 401, (("make", 1),) * 401):
            self.assertIs(is_script(store, deeds), False)
            self.refuses_given(InvalidScript, deeds, run, store, deeds)

    def test_run(self):
        store = Store(line_tree(3), [2, 0, 2])
        script = [("make", 0), ("hand", 0, 1), ("make", 2), ("hand", 2, 1)]
        for told_script in (script, tuple(script)):
            running = run(store, told_script)
            self.assertEqual((running.script, running.book(1), running.finished), (tuple(script), (1, 0), False))
            self.assertTrue(running.store == store)
        self.assertEqual(running.make(2), 2)
        self.assertEqual(len(script), 4)
        self.assertEqual(run(store, []).script, ())
        self.assertEqual(self.same(run, ["store", "script"], [store, script]).book(1), (1, 0))
        self.assertIs(self.same(is_script, ["store", "value"], [store, script]), True)

    def test_stopped(self):
        store = Store(line_tree(3), [2, 0, 2])
        self.refuses(Stopped, {"at": 0}, run, store, [("make", 1)])
        self.refuses(Stopped, {"at": 1}, run, store, [("make", 0), ("hand", 1, 0)])
        self.refuses(Stopped, {"at": 2}, run, store, [("make", 2), ("hand", 2, 1), ("hand", 2, 1), ("make", 1)])
        self.refuses(Stopped, {"at": 3}, run, store, [("make", 2), ("make", 2), ("make", 0), ("make", 2)])
        given = [("make", 1), ("hand", 0, 2)]
        self.refuses_given(InvalidScript, given, run, store, given)

    def test_the_script_is_not_kept(self):
        store = Store(line_tree(3), [2, 0, 2])
        script = [("make", 0)]
        running = run(store, script)
        script.append(("make", 2))
        running.make(2)
        self.assertEqual((running.script, script), ((("make", 0), ("make", 2)), [("make", 0), ("make", 2)]))
        self.assertEqual(run(store, script[:1]).script, (("make", 0),))

    def test_every_history_has_writes_times_houses_deeds(self):
        store = Store(line_tree(2), [0, 1, 0])
        many = 0
        for script, states in brute.Search(store).histories():
            running = run(store, script)
            self.assertEqual((running.finished, len(script)), (True, 6))
            self.assertEqual(tuple(running.book(house) for house in range(2)), states[-1])
            many += 1
        self.assertGreater(many, 10)


if __name__ == "__main__":
    unittest.main()
