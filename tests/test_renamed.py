"""Houses and writes named anew: the answers that the document fixes are the same but for the names."""

import random
import unittest

from looksleft.ahead import ahead, closed, verdict
from looksleft.asks import alone, is_answers, next_ask, verdict_of
from looksleft.balance import copies, exchanges, last_lot, own_lines, parting
from looksleft.books import book_fault, earliest, is_moments, is_standing, seen
from looksleft.clocks import clock_ring, is_clock_ring, sooner_pairs
from looksleft.come import can_have, count_lots, fate, greatest, least
from looksleft.desk import Desk
from looksleft.errors import LeftError
from looksleft.histories import history, is_fitting, is_history
from looksleft.later import no_later
from looksleft.looks import Look
from looksleft.needs import is_needs, needless, needs, stretch
from looksleft.partly import can_have_by, greatest_by, least_by
from looksleft.pasts import can_be_past, greatest_past, least_past
from looksleft.pictures import arrows, looks_fit
from looksleft.rows import count_rows, is_row, open_pairs, row_of
from looksleft.running import run
from looksleft.shown import at_last, common, shown, sure_common
from looksleft.stores import Store, made_in, written
from looksleft.tables import all_tables, count_last_tables, is_last_table
from looksleft.trees import Tree, distance, ends, middle, neighbours, on_way, side, span, way
from looksleft.whole import is_past_history, past_history
from tests import brute, cases
from tests.test_balance import with_cells
from tests.test_clocks import some_pairs
from tests.test_limits import big_stores, chance_run, nine_looks
from tests.tools import LooksleftCase


class Names:
    """New names for the houses and writes of a store; writes of one home keep their order."""

    def __init__(self, store, chooser):
        self.houses = chooser.sample(range(store.tree.houses), store.tree.houses)
        drawn = chooser.sample(range(len(store)), len(store))
        places = {home: sorted(at for at, write in enumerate(drawn) if store.homes[write] == home) for home in store.homes}
        self.writes = {write: places[home].pop(0) for write, home in enumerate(store.homes)}
        self.writes[None] = None
        roads = sorted(tuple(sorted(self.all_houses(road))) for road in store.tree.roads)
        old = sorted(range(len(store)), key=self.writes.get)
        self.store = Store(Tree(store.tree.houses, roads), self.all_houses(store.homes[write] for write in old),
                           cells=[store.cells[write] for write in old])

    def all_houses(self, houses):
        return [self.houses[house] for house in houses]

    def row(self, writes):
        """The new names of writes, in their order."""
        return [self.writes[write] for write in writes]

    def lot(self, writes):
        """The new names of writes, None first and the others ascending."""
        return sorted(self.row(writes), key=lambda write: -1 if write is None else write)

    def pairs(self, pairs):
        return sorted((self.writes[x], self.writes[z]) for x, z in pairs)

    def look(self, look):
        return Look(self.houses[look.house], [self.row(lot) for lot in look.lots], moment=look.moment)

    def by_house(self, rows):
        """A list with a row for each house, in the new order of the houses; each row is changed by nobody."""
        return [row for _, row in sorted(zip(self.houses, rows), key=lambda pair: pair[0])]

    def books(self, books):
        return self.by_house([self.row(book) for book in books])

    def deed(self, deed):
        return (deed[0], *self.all_houses(deed[1:]))


class TestRenamed(LooksleftCase):

    def all_cases(self, seed):
        """Tuples (store, looks, books, names, chooser): small stores, greater ones and a few of the greatest."""
        chooser = random.Random(seed)
        lists = [(search.store, looks) for search, looks, _ in cases.fitting_looks(seed, 120, 10)]
        lists += [cases.middle_case(chooser) for _ in range(15)]
        for store in chooser.sample(big_stores(), 4):
            lists.append((store, nine_looks(chance_run(store, chooser)[1], chooser)))
        for store, looks in lists:
            store = with_cells(store, chooser)
            books = [list(book) for book in brute.states_of(store, brute.chance_script(store, chooser))[-1]]
            yield store, looks, books, Names(store, chooser), chooser

    def test_trees_and_stores(self):
        for store, _, _, names, chooser in self.all_cases(161):
            tree, other, new = store.tree, names.store.tree, names.houses
            self.assertEqual(ends(other), sorted(names.all_houses(ends(tree))))
            for a in range(tree.houses):
                b, c = chooser.randrange(tree.houses), chooser.randrange(tree.houses)
                self.assertEqual(neighbours(other, new[a]), sorted(names.all_houses(neighbours(tree, a))))
                self.assertEqual(way(other, new[a], new[b]), tuple(names.all_houses(way(tree, a, b))))
                self.assertEqual(distance(other, new[a], new[b]), distance(tree, a, b))
                self.assertEqual(middle(other, new[a], new[b], new[c]), new[middle(tree, a, b, c)])
                self.assertIs(on_way(other, new[a], new[b], new[c]), on_way(tree, a, b, c))
                self.assertEqual(span(other, [new[a], new[b], new[c]]), sorted(names.all_houses(span(tree, [a, b, c]))))
                self.assertEqual(made_in(names.store, new[a]), names.lot(made_in(store, a)))
                for u in neighbours(tree, a):
                    self.assertEqual(side(other, new[a], new[u]), sorted(names.all_houses(side(tree, a, u))))
            self.assertEqual([written(names.store, cell) for cell in range(6)], [names.lot(written(store, cell)) for cell in range(6)])

    def test_books(self):
        for store, _, books, names, chooser in self.all_cases(162):
            told, new = names.books(books), names.store
            bent = [list(book) for book in books]
            bent[0].reverse()
            self.assertIsNone(book_fault(new, told))
            self.assertIs(book_fault(new, names.books(bent)) is None, book_fault(store, bent) is None)
            self.assertEqual(earliest(new, told), names.by_house(earliest(store, books)))
            self.assertIs(is_moments(new, told, names.by_house(earliest(store, books))), True)
            self.assertEqual(seen(new, told), names.pairs(seen(store, books)))
            script = brute.chance_script(store, chooser, books)
            running = run(new, [names.deed(deed) for deed in script])
            self.assertEqual([list(running.book(house)) for house in range(new.tree.houses)], told)
            for _ in range(3):
                counts = [chooser.randint(0, len(store)) for _ in books]
                self.assertIs(is_standing(new, told, names.by_house(counts)), is_standing(store, books, counts))
            chosen = chooser.sample(range(store.tree.houses), chooser.randint(0, store.tree.houses))
            self.assertIs(is_needs(new, told, names.all_houses(chosen)), is_needs(store, books, chosen))
            if all(len(neighbours(store.tree, house)) < 3 for house in range(store.tree.houses)):
                self.assertEqual(len(needs(new, told)), len(needs(store, books)))
            for house in range(store.tree.houses):
                for index in range(len(store) - 1):
                    if store.homes[books[house][index]] != store.homes[books[house][index + 1]]:
                        self.assertEqual(stretch(new, told, names.houses[house], index), sorted(names.all_houses(stretch(store, books, house, index))))

    def test_what_is_surely_ahead(self):
        for store, looks, books, names, chooser in self.all_cases(163):
            new, told = names.store, [names.look(look) for look in looks]
            self.assertIs(looks_fit(new, told), True)
            self.assertEqual(needless(new, told), needless(store, looks))
            self.assertIs(is_fitting(new, told, names.books(books)), is_fitting(store, looks, books))
            for house in chooser.sample(range(store.tree.houses), min(store.tree.houses, 3)):
                here, other = names.houses[house], chooser.randrange(store.tree.houses)
                self.assertEqual(arrows(new, told, here), sorted((*names.row(arrow[:2]), *arrow[2:]) for arrow in arrows(store, looks, house)))
                self.assertEqual(ahead(new, told, here), names.pairs(ahead(store, looks, house)))
                self.assertEqual(count_rows(new, told, here), count_rows(store, looks, house))
                row = row_of(store, looks, house)
                self.assertEqual(row_of(new, told, here), None if row is None else tuple(names.row(row)))
                self.assertIs(is_row(new, told, here, names.row(books[house])), is_row(store, looks, house, books[house]))
                self.assertEqual(open_pairs(new, told, here), sorted(tuple(names.lot(pair)) for pair in open_pairs(store, looks, house)))
                self.assertEqual(no_later(new, told, here, names.houses[other]), names.pairs(no_later(store, looks, house, other)))
                lot = chooser.sample(range(len(store)), len(store) // 2)
                self.assertEqual(closed(new, told, here, names.row(lot)), names.lot(closed(store, looks, house, lot)))
                if len(store) > 1:
                    x, z = chooser.sample(range(len(store)), 2)
                    self.assertEqual(verdict(new, told, here, *names.row([x, z])), verdict(store, looks, house, x, z))

    def test_looks_of_any_kind(self):
        chooser = random.Random(164)
        fits = []
        for search, looks in cases.some_looks(164, 300):
            names = Names(search.store, chooser)
            fits.append(looks_fit(search.store, looks))
            self.assertIs(looks_fit(names.store, [names.look(look) for look in looks]), fits[-1])
        self.assertGreater(min(fits.count(True), fits.count(False)), 50)

    def test_what_had_come_and_what_was_shown(self):
        for store, looks, books, names, chooser in self.all_cases(165):
            new, told = names.store, [names.look(look) for look in looks]
            moment = chooser.choice([look.moment for look in looks if look.moment is not None] + [3])
            for house in chooser.sample(range(store.tree.houses), min(store.tree.houses, 3)):
                here = names.houses[house]
                self.assertEqual(least(new, told, here, moment), names.lot(least(store, looks, house, moment)))
                self.assertEqual(greatest(new, told, here, moment), names.lot(greatest(store, looks, house, moment)))
                self.assertEqual(count_lots(new, told, here, moment), count_lots(store, looks, house, moment))
                lot = books[house][:chooser.randint(0, len(store))]
                self.assertIs(can_have(new, told, here, moment, names.row(lot)), can_have(store, looks, house, moment, lot))
                for write in range(len(store)):
                    self.assertEqual(fate(new, told, here, moment, names.writes[write]), fate(store, looks, house, moment, write))
                for cell in range(6):
                    self.assertEqual(shown(new, told, here, moment, cell), names.lot(shown(store, looks, house, moment, cell)))
                    self.assertEqual(at_last(new, told, here, cell), names.lot(at_last(store, looks, house, cell)))
            for cell in range(6):
                self.assertEqual(common(new, told, cell), names.lot(common(store, looks, cell)))
                self.assertEqual(sure_common(new, told, cell), names.writes[sure_common(store, looks, cell)])
            for function in (least_past, greatest_past):
                self.assertEqual(function(new, told, moment), names.by_house([names.lot(lot) for lot in function(store, looks, moment)]))
            past = [book[:chooser.randint(0, len(store))] for book in books]
            self.assertIs(can_be_past(new, told, moment, names.books(past)), can_be_past(store, looks, moment, past))

    def test_histories(self):
        for store, looks, _, names, _ in self.all_cases(166):
            new, told = names.store, [names.look(look) for look in looks]
            books, script, places = history(store, looks)
            self.assertIs(is_history(new, told, (names.books(books), [names.deed(deed) for deed in script], places)), True)
            for more in ({"greatest": False}, {"greatest": True}):
                books, script, stops = past_history(store, looks, **more)
                self.assertIs(is_past_history(new, told, (names.books(books), [names.deed(deed) for deed in script], stops), **more), True)
            desk = Desk(new)
            for look in told:
                desk.add(look)
            self.assertEqual(desk.past(2), names.by_house([names.lot(lot) for lot in least_past(store, looks, 2)]))

    def test_moments_told_in_part(self):
        for store, looks, _, names, chooser in self.all_cases(167):
            new, told = names.store, [names.look(look) for look in looks]
            self.assertEqual(sooner_pairs(new, told), sooner_pairs(store, looks))
            pairs = some_pairs(chooser, len(looks))
            ring = clock_ring(store, looks, pairs)
            self.assertIs(clock_ring(new, told, pairs) is None, ring is None)
            self.assertIs(ring is None or is_clock_ring(new, told, pairs, ring), True)
            before, behind = [chooser.sample(range(len(looks)), min(len(looks), chooser.randint(0, 1))) for _ in range(2)]
            house, lot = chooser.randrange(store.tree.houses), chooser.sample(range(len(store)), len(store) // 2)
            between = {"before": before, "behind": behind}
            try:
                low, high = least_by(store, looks, pairs, house, **between), greatest_by(store, looks, pairs, house, **between)
            except LeftError as error:
                self.assertRaises(type(error), least_by, new, told, pairs, names.houses[house], **between)
                continue
            args = (new, told, pairs, names.houses[house])
            self.assertEqual([least_by(*args, **between), greatest_by(*args, **between)], [names.lot(low), names.lot(high)])
            self.assertIs(can_have_by(*args, names.row(lot), **between), can_have_by(store, looks, pairs, house, lot, **between))

    def test_balance_and_tables(self):
        for store, _, books, names, chooser in self.all_cases(168):
            new, told = names.store, names.books(books)
            house, count = chooser.randrange(store.tree.houses), chooser.randint(0, len(store))
            here = names.houses[house]
            self.assertEqual(last_lot(new, told, here, count), names.lot(last_lot(store, books, house, count)))
            self.assertEqual(own_lines(new, told, count), own_lines(store, books, count))
            self.assertEqual(exchanges(new, told, count), sorted(self.renamed_exchange(names, item) for item in exchanges(store, books, count)))
            self.assertEqual(copies(new, told), names.by_house([tuple(names.row(copy)) for copy in copies(store, books)]))
            for cell in sorted(set(store.cells)):
                road = parting(store, books, cell)
                self.assertEqual(parting(new, told, cell), None if road is None else tuple(sorted(names.all_houses(road))))
                self.assertEqual(count_last_tables(new, cell), count_last_tables(store, cell))
                self.assertIs(alone(new, here, told[here], cell), alone(store, house, books[house], cell))
                table = list(chooser.choice(all_tables(store, cell)))
                self.assertIs(is_last_table(new, cell, names.by_house(names.row(table))), True)
                answers = [(other, table[other]) for other in chooser.sample(range(len(table)), min(len(table), chooser.randint(0, 2)))]
                renamed = [(names.houses[other], names.writes[write]) for other, write in answers]
                self.assertIs(is_answers(new, cell, renamed), True)
                self.assertEqual(verdict_of(new, cell, renamed), verdict_of(store, cell, answers))
                asked = next_ask(store, cell, answers)
                self.assertEqual(next_ask(new, cell, renamed), names.houses[asked] if asked is not None and answers else asked)

    def renamed_exchange(self, names, item):
        u, v = names.all_houses(item[:2])
        gone, come = [tuple(names.lot(lot)) for lot in item[2:]]
        return (u, v, gone, come) if u < v else (v, u, come, gone)


if __name__ == "__main__":
    unittest.main()
