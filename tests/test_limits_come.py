"""Point 12 for what had come, reasons, what was shown and pasts: stores of 16 houses and 12 writes with 9 looks.

No search goes through such stores. Instead each answer is shown by a reason or by a history, followed deed by deed.
"""

import itertools
import random
import unittest

from looksleft.ahead import ahead
from looksleft.come import can_have, count_lots, fate, greatest, least, lot_at
from looksleft.errors import CannotHave, InvalidIndex, NeverCommon, NeverLast, NeverShown, Open
from looksleft.looks import Look
from looksleft.pasts import can_be_past, greatest_past, is_past, least_past, past_picture
from looksleft.reasons import have_history, is_why_come, is_why_missing, why_come, why_missing
from looksleft.shown import at_last, common, common_books, last_books, shown, shown_history, sure_common
from looksleft.stores import Store
from tests import brute, cases
from tests.test_histories import keeps_all
from tests.test_limits import big_stores, chance_run, nine_looks
from tests.test_limits_sure import fits
from tests.test_pasts import is_right_picture, with_past
from tests.test_shown import last_of, places_are_right
from tests.tools import LooksleftCase, line_tree


class TestLimits(LooksleftCase):

    def great_cases(self):
        """Tuples (store, looks, moment, house, chooser), the greatest stores and some that are less great."""
        chooser = random.Random(45)
        for store in big_stores():
            _, states = chance_run(store, chooser)
            looks = nine_looks(states, chooser)
            for moment in chooser.sample(range(-1, 194), 3):
                yield store, looks, moment, chooser.randrange(16), chooser
        for _ in range(25):
            store, looks = cases.middle_case(chooser)
            yield store, looks, chooser.randrange(40), chooser.randrange(store.tree.houses), chooser

    def check_have(self, store, looks, house, moment, lot):
        told = have_history(store, looks, house, moment, lot)
        self.assertTrue(keeps_all(store, looks + [Look(house, [lot] if lot else [], moment=moment)], told))

    def test_each_write_by_a_reason_or_by_histories(self):
        fates = set()
        for store, looks, moment, house, _ in self.great_cases():
            low, high = least(store, looks, house, moment), greatest(store, looks, house, moment)
            self.assertTrue(set(low) <= set(high))
            # These two histories show of each open write that it can have come and need not have come.
            self.check_have(store, looks, house, moment, low)
            self.check_have(store, looks, house, moment, high)
            for write in range(len(store)):
                args = (store, looks, house, moment, write)
                told = fate(*args)
                self.assertEqual(told, "come" if write in low else "open" if write in high else "missing")
                fates.add(told)
                for name, why, is_why in (("come", why_come, is_why_come), ("missing", why_missing, is_why_missing)):
                    if told == name:
                        self.assertIs(is_why(*args, why(*args)), True)
                    else:
                        self.refuses(Open, {"write": write}, why, *args)
        self.assertEqual(fates, {"come", "open", "missing"})

    def test_lots(self):
        for store, looks, moment, house, chooser in self.great_cases():
            many = count_lots(store, looks, house, moment)
            found = [lot_at(store, looks, house, moment, at) for at in sorted({0, many // 2, many - 1})]
            self.assertEqual(found, sorted(found))
            self.refuses_given(InvalidIndex, many, lot_at, store, looks, house, moment, many)
            for lot in found:
                self.assertIs(can_have(store, looks, house, moment, lot), True)
                self.check_have(store, looks, house, moment, lot)
            self.check_wrong_lot(store, looks, house, moment, chooser.sample(range(len(store)), chooser.randint(0, len(store))))

    def check_wrong_lot(self, store, looks, house, moment, lot):
        """A lot of any kind, which can have come exactly if no write shows that it cannot."""
        low, high = least(store, looks, house, moment), greatest(store, looks, house, moment)
        due = sorted({x for x, z in ahead(store, looks, house) if z in lot and x not in lot})
        wrong = [write for write in low if write not in lot] or [write for write in sorted(lot) if write not in high] or due
        self.assertIs(can_have(store, looks, house, moment, lot), not wrong)
        if wrong:
            self.refuses(CannotHave, {"write": wrong[0]}, have_history, store, looks, house, moment, lot)

    def test_shown(self):
        for store, looks, moment, house, chooser in self.great_cases():
            store = Store(store.tree, store.homes, cells=[chooser.choice([0, 0, 5]) for _ in store.homes])
            cell = chooser.choice([0, 0, 5, 2])
            found = shown(store, looks, house, moment, cell)
            for write in found:
                books, script, places = shown_history(store, looks, house, moment, cell, write)
                self.assertTrue(keeps_all(store, looks, (books, script, places[:-1])))
                self.assertTrue(places_are_right(looks, moment, places))
                come = [deed[-1] for deed in script[:places[-1]]].count(house)
                self.assertEqual(last_of(store, books[house][:come], cell), write)
            for write in {None, *range(len(store))} - set(found):
                self.refuses(NeverShown, {"write": write}, shown_history, store, looks, house, moment, cell, write)

    def test_last_ones(self):
        for store, looks, _, house, chooser in self.great_cases():
            store = Store(store.tree, store.homes, cells=[chooser.choice([0, 0, 5]) for _ in store.homes])
            for write, cell in enumerate(store.cells):
                if write in at_last(store, looks, house, cell):
                    books = last_books(store, looks, house, write)
                    self.assertTrue(fits(store, looks, books))
                    self.assertEqual(last_of(store, books[house], cell), write)
                else:
                    self.refuses(NeverLast, {"write": write}, last_books, store, looks, house, write)
                if write in common(store, looks, cell):
                    books = common_books(store, looks, write)
                    self.assertTrue(fits(store, looks, books))
                    self.assertEqual({last_of(store, book, cell) for book in books}, {write})
                else:
                    self.refuses(NeverCommon, {"write": write}, common_books, store, looks, write)
                self.assertIn(sure_common(store, looks, cell), common(store, looks, cell) + [None])

    def test_looks_that_tell_all(self):
        chooser = random.Random(46)
        for store in big_stores():
            _, states = chance_run(store, chooser)
            looks = [Look(house, [[write] for write in states[-1][house]], moment=9) for house in range(0, 16, 2)]
            self.assertEqual([least(store, looks, house, 9) for house in range(0, 16, 2)], [list(range(12))] * 8)
            for cell in range(6):
                last = [last_of(store, states[-1][house], cell) for house in range(0, 16, 2)]
                self.assertEqual([at_last(store, looks, house, cell) for house in range(0, 16, 2)],
                                 [[] if write is None else [write] for write in last])

    def test_pasts(self):
        kinds = set()
        for store, looks, moment, house, chooser in self.great_cases():
            low, high = least_past(store, looks, moment), greatest_past(store, looks, moment)
            self.assertEqual((low[house], high[house]), (least(store, looks, house, moment), greatest(store, looks, house, moment)))
            mixed = [chooser.choice(lots) for lots in zip(low, high)]
            bent = [sorted(set(lot) ^ {chooser.randrange(12)} & set(range(len(store)))) if chooser.random() < 0.1 else lot for lot in low]
            for past in (low, high, mixed, bent):
                self.assertIs(is_past(store, past), True)
                picture = past_picture(store, looks, moment, past)
                self.assertIs(can_be_past(store, looks, moment, past), picture is None)
                kinds.add(None if picture is None else picture[0])
                if picture is not None:
                    self.assertTrue(past in (mixed, bent) and is_right_picture(store, with_past(looks, moment, past), picture))
        self.assertLessEqual({None, "time"}, kinds)

    def test_pasts_of_a_run_can_be(self):
        chooser = random.Random(47)
        for store in big_stores():
            _, states = chance_run(store, chooser)
            looks = nine_looks(states, chooser)
            for place in chooser.sample(range(len(states)), 6):
                past = [sorted(book) for book in states[place]]
                self.assertIs(can_be_past(store, looks, place, past), True)
                for house in range(16):
                    self.assertIs(can_have(store, looks, house, place, past[house]), True)
                    self.assertIn(last_of(store, states[place][house], 0), shown(store, looks, house, place, 0))

    def test_twelve_writes_of_twelve_homes(self):
        store = Store(line_tree(16), list(range(2, 14)))
        looks = [Look(15, [], moment=1)] * 9
        self.assertEqual([count_lots(store, looks, house, 2) for house in (0, 15)], [4096, 4096])
        self.assertEqual([count_lots(store, looks, house, 1) for house in (0, 15)], [4096, 1])
        self.assertEqual(len(shown(store, looks, 0, 1, 0)), 13)
        for lot in itertools.islice(itertools.combinations(range(12), 6), 0, 900, 90):
            self.check_have(store, looks, 0, 1, list(lot))
        self.assertEqual(brute.come(looks[0]), set())


if __name__ == "__main__":
    unittest.main()
