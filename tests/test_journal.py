"""Point 144: desks read from their lines."""

import random
import re
import unittest

from looksleft.desk import Desk
from looksleft.errors import InvalidLine, InvalidLines, NothingToRedo, NothingToUndo
from looksleft.journal import read_desk
from looksleft.looks import Look
from looksleft.pictures import looks_fit
from looksleft.stores import Store
from looksleft.trees import Tree
from tests import cases
from tests.test_limits import big_stores, chance_run, nine_looks
from tests.tools import LooksleftCase, line_tree, odd_values

NUMBER = "(?:0|[1-9][0-9]*)"
LOT = f"(?: {NUMBER})+"
LOOK = re.compile(f"({NUMBER}):((?:{LOT}(?: \\|{LOT})*)?)(?: @ (0|-?[1-9][0-9]*))?")
STORE = re.compile(f"({NUMBER}):((?: {NUMBER}-{NUMBER})*) /((?: {NUMBER}\\.{NUMBER})*)")
LINES = ["2: 0-1 / 0.0 1.0", "0: 1 @ 5", "1: 1 | 0"]
SIGNS = " 0123459:|@-+./x,\\\"'~"


def numbers(text, mark):
    return [tuple(int(part) for part in word.split(mark)) for word in text.split()]


def own_store(line):
    """A tuple (houses, roads, homes, cells) by an own reading of the line of a store, or None."""
    found = STORE.fullmatch(line)
    if not found:
        return None
    houses, roads = int(found[1]), numbers(found[2], "-")
    writes = numbers(found[3], ".")
    if not 1 <= houses <= 16 or len(roads) != houses - 1 or roads != sorted(set(roads)) or len(writes) > 12:
        return None
    if not all(u < v < houses for u, v in roads) or not all(home < houses and cell < 6 for home, cell in writes):
        return None
    joined = {0}
    for _ in roads:
        joined |= {house for road in roads if set(road) & joined for house in road}
    return (houses, roads, [home for home, _ in writes], [cell for _, cell in writes]) if len(joined) == houses else None


def own_look(line, houses, many):
    """A tuple (house, lots, moment) by an own reading of the line of a look, or None."""
    found = LOOK.fullmatch(line)
    if not found:
        return None
    lots = [[int(word) for word in lot.split()] for lot in found[2].split(" |")] if found[2] else []
    writes = [write for lot in lots for write in lot]
    if int(found[1]) >= houses or any(write >= many for write in writes) or len(set(writes)) < len(writes):
        return None
    if any(lot != sorted(lot) for lot in lots):
        return None
    return (int(found[1]), lots, None if found[3] is None else int(found[3]))


def first_wrong(lines):
    """The index of the first wrong line, or None, and the looks that were read."""
    told = own_store(lines[0])
    if told is None:
        return 0, []
    store = Store(Tree(told[0], told[1]), told[2], cells=told[3])
    looks = []
    for at, line in enumerate(lines[1:], 1):
        look = own_look(line, told[0], len(told[2]))
        if look is None or len(looks) == 9:
            return at, looks
        looks.append(Look(look[0], look[1], moment=look[2]))
        if not looks_fit(store, looks):
            return at, looks
    return None, looks


class JournalCase(LooksleftCase):

    def check(self, lines):
        """The lines are read, or refused with the first wrong one, as an own reading says; return whether they are right."""
        wrong, looks = first_wrong(lines)
        if wrong is not None:
            with self.assertRaises(InvalidLine) as caught:
                read_desk(lines)
            self.assertEqual((type(caught.exception), list(vars(caught.exception))), (InvalidLine, ["given"]))
            self.assertIs(caught.exception.given, lines[wrong])
            return False
        desk = read_desk(lines)
        self.assertEqual(desk.lines(), list(lines))
        self.assertEqual(len(desk.looks), len(looks))
        self.assertTrue(all(first == second for first, second in zip(desk.looks, looks)))
        return True


class TestReading(JournalCase):

    def some_desk(self, search, looks, chooser):
        cells = [chooser.choice([0, 0, 3, 5]) for _ in search.store.homes]
        desk = Desk(Store(search.store.tree, search.store.homes, cells=cells))
        for look in looks:
            if chooser.random() < 0.3 and look.moment is not None:
                look = Look(look.house, look.lots, moment=look.moment * 10 ** 19 - 5)
            if desk.tried(look) is None:
                desk.add(look)
        return desk

    def test_lines_read_back(self):
        chooser = random.Random(144)
        for search, looks, _ in cases.fitting_looks(144, 250, 5):
            desk = self.some_desk(search, looks, chooser)
            lines = desk.lines()
            again = read_desk(lines)
            self.assertEqual((type(again), again.lines()), (Desk, lines))
            self.assertTrue(again.store == desk.store)
            for house in range(len(desk.store.tree)):
                self.assertEqual([again.ahead(house), again.least(house, 2), again.greatest(house, 2), again.shown(house, 2, 0)],
                                 [desk.ahead(house), desk.least(house, 2), desk.greatest(house, 2), desk.shown(house, 2, 0)])
            self.assertEqual(again.past(2), desk.past(2))
            self.refuses(NothingToUndo, {}, again.undo)
            self.refuses(NothingToRedo, {}, again.redo)
            self.assertEqual(read_desk(tuple(lines)).lines(), lines)
            self.assertIs(self.check(lines), True)

    def test_a_desk_that_was_read_goes_on(self):
        desk = read_desk(LINES)
        self.assertEqual(desk.add(Look(0, [])), 2)
        desk.undo()
        self.assertEqual(desk.lines(), LINES)
        self.refuses(NothingToUndo, {}, desk.undo)
        desk.redo()
        self.assertEqual(desk.drop(0).moment, 5)
        self.assertEqual(read_desk(LINES).lines(), LINES)

    def test_each_sign_put_in_taken_out_or_changed(self):
        right = 0
        for lines in (LINES, ["1: / 0.0", "0: 0 @ -12"], ["3: 0-2 1-2 / 2.0 0.0 2.5", "2: @ 0", "1:", "0: 0 2 | 1 @ 10"]):
            self.assertIs(self.check(lines), True)
            for at, line in enumerate(lines):
                for place in range(len(line) + 1):
                    bent = {line[:place] + line[place + 1:], line[:place] + line[place + 1:place + 2] + line[place:place + 1] + line[place + 2:]}
                    for sign in SIGNS:
                        bent |= {line[:place] + sign + line[place:], line[:place] + sign + line[place + 1:]}
                    for other in sorted(bent):
                        right += self.check(lines[:at] + [other] + lines[at + 1:])
        self.assertGreater(right, 100)

    def test_lines_of_looks_that_are_none(self):
        store = "3: 0-1 1-2 / 0.0 1.0 1.3 2.0"
        wrong = ["", " ", "0", ":", "0 :", " 0:", "0: ", "0:  ", "0:0", "0:  0", "0: 0 ", "0: 0  1", "0: 00", "0: 01", "00:", "00: 0", "+0:", "-0:",
                 "0: -0", "0: +0", "0: 1 0", "0: 0 0", "0: 0 | 0", "0: 0 | 1 0", "0: 0 |", "0: |", "0: | 0", "0: 0 | | 1", "0: 0 || 1", "0: 0|1",
                 "0: 0 |1", "0: 0| 1", "0: 0 |  1", "0: 0  | 1", "0: 4", "3:", "16:", "0: 0 @", "0: 0 @ ", "0: 0 @5", "0: 0@ 5", "0: 0 @  5",
                 "0: 0  @ 5", "0: 0 @ 5 ", "0: @", "0:@ 5", "0:  @ 5", "0: @ +5", "0: @ -0", "0: @ 05", "0: @ -05", "0: @ 00", "0: @ --5",
                 "0: @ 5-", "0: @ 5 @ 5", "0: @ 5 | 0", "0: @ None", "0: @ x", "0: @ 5.0", "0: @ 1e3", "0: 0, 1", "0: 0;1", "0: a", "a: 0", "0: 0\t1",
                 "0: 0 | @ 5", "0: | @ 5", "0:0 @ 5", "0; 0", "0: 1_0", "0: 0 1 2 3 4", "0: 0 @ 1_0", "0:\n", "0: 0\n", "0: @ -", "-1:", "0: 2"]
        for line in wrong:
            lines = [store, "1:", line, "wrong, too"]
            self.assertIs(self.check(lines), False)
            self.refuses(InvalidLine, {"given": line}, read_desk, lines)
        right = ["0: 0", "0: 0 1", "0: 0 | 1", "0: 1 | 0", "0: 0 1 2 3", "0: 3 | 1 2", "0: @ 5", "0: @ -5", "0: @ 0", "0: 0 @ 99999999999999999999",
                 "0: 0 @ -99999999999999999999", "2: 0 1 2 3 @ 10", "0:"]
        for line in right:
            self.assertIs(self.check([store, line]), True)

    def test_a_line_that_does_not_fit_those_ahead_of_it(self):
        lines = ["2: 0-1 / 0.0 1.0", "0: 1 @ 5", "0: 0", "1:"]
        self.assertIs(self.check(lines), False)
        self.refuses(InvalidLine, {"given": "0: 0"}, read_desk, lines)
        self.assertIs(self.check([lines[0], lines[2], lines[3]]), True)
        self.refuses(InvalidLine, {"given": "1: 0"}, read_desk, ["2: 0-1 / 0.0 1.0", "0: 1 @ 5", "1: 0"])
        self.refuses(InvalidLine, {"given": "0: @ 5"}, read_desk, ["2: 0-1 / 0.0 1.0", "0: 1 @ 5", "0: @ 5"])

    def test_a_tenth_look(self):
        lines = ["2: 0-1 / 0.0 1.0"] + ["0:"] * 9
        self.assertEqual(len(read_desk(lines).looks), 9)
        for line in ("0: 0", "0:", "no line"):
            self.refuses(InvalidLine, {"given": line}, read_desk, lines + [line])
        self.refuses(InvalidLine, {"given": "1:"}, read_desk, lines + ["1:"] + ["0:"] * 980)

    def test_stores(self):
        for line in ("", "2: 0-1", "2: 0-1 /1.0", "2: 0-1 / 0.0 ", "2: 0-1 / 0.6", "2: 0-1 / 2.0", "02: 0-1 /", "3: 0-1 /", "2: 1-0 /", "x", "0: /",
                     "17: /", "2: 0-1 /" + " 0.0" * 13, "0: 1 @ 5"):
            self.refuses(InvalidLine, {"given": line}, read_desk, [line, "wrong, too"])
            self.assertIs(self.check([line]), False)
        for line in ("1: /", "2: 0-1 /", "2: 0-1 /" + " 0.0" * 12):
            self.assertIs(self.check([line]), True)
            self.assertEqual(read_desk([line]).looks, ())

    def test_values_that_are_no_lists_of_strings(self):
        for value in odd_values() + [[None], [LINES[0], None], [LINES[0], 5], LINES[0], {LINES[0]: 1}, [LINES], (LINES[0], Look(0, [])), [b"1: /"],
                                     [[LINES[0]]], [LINES[0], ["0:"]], (), [], ["x", 5], [5, "x"]]:
            if value == ["a"]:
                self.refuses(InvalidLine, {"given": "a"}, read_desk, value)
            else:
                self.refuses_given(InvalidLines, value, read_desk, value)

    def test_arguments(self):
        lines = list(LINES)
        self.assertEqual(read_desk(lines=lines).lines(), LINES)
        desk = read_desk(lines)
        lines.append("no line")
        self.assertEqual((desk.lines(), read_desk(LINES).lines()), (LINES, LINES))
        self.refuses(InvalidLine, {"given": "no line"}, read_desk, lines)
        first, second = read_desk(LINES), read_desk(LINES)
        first.drop(0)
        self.assertEqual((len(first.looks), len(second.looks)), (1, 2))


class TestLimits(JournalCase):

    def test_the_greatest_stores(self):
        chooser = random.Random(145)
        for store in big_stores():
            desk = Desk(store)
            for look in nine_looks(chance_run(store, chooser)[1], chooser):
                desk.add(look)
            lines = desk.lines()
            self.assertIs(self.check(lines), True)
            self.refuses(InvalidLine, {"given": lines[1]}, read_desk, lines + lines[1:2])
            at = chooser.randrange(1, 10)
            place = chooser.randrange(len(lines[at]))
            self.check(lines[:at] + [lines[at][:place] + lines[at][place + 1:]] + lines[at + 1:])

    def test_long_lines(self):
        store = Store(line_tree(2), [0])
        for line in ("0:" + " 0" * 999, "0" * 1999 + ":", "0: @ " + "1" * 1990, "0:" + " |" * 990, ":" * 2000, " " * 2000, "@ " * 1000):
            self.check([store.line(), line])
        self.assertEqual(read_desk([store.line(), "0: @ " + "1" * 1990]).looks[0].moment, int("1" * 1990))


if __name__ == "__main__":
    unittest.main()
