"""Points 141 to 144: a desk, its deeds, its questions and its lines."""

import random
import unittest

from looksleft.ahead import ahead
from looksleft.come import greatest, least
from looksleft.desk import Desk
from looksleft.errors import DoNotFit, Full, InvalidCell, InvalidHouse, InvalidIndex, InvalidLook, InvalidMoment
from looksleft.errors import NothingToRedo, NothingToUndo
from looksleft.looks import Look
from looksleft.pasts import least_past
from looksleft.pictures import picture
from looksleft.shown import shown
from looksleft.stores import Store
from looksleft.trees import Tree
from tests import brute, cases
from tests.test_limits import big_stores, chance_run, nine_looks
from tests.test_pasts import is_right_picture
from tests.tools import LooksleftCase, line_tree, no_numbers, odd_values, star_tree

STORE = Store(line_tree(2), [0, 1])
STAR = Store(star_tree(4), [1, 2, 3])


class Model:
    """An own desk: the list of all states, each a list of looks, and the index of the present one."""

    def __init__(self, search):
        self.search = search
        self.states = [[]]
        self.at = 0

    @property
    def looks(self):
        return self.states[self.at]

    def go_on(self, looks):
        self.states = self.states[:self.at + 1] + [looks]
        self.at += 1

    def fits(self, look):
        return bool(self.search.ends(self.looks + [look]))


def wrong_looks(store):
    """Values that are no looks of the store."""
    houses, many = store.tree.houses, len(store)
    return [Look(houses, []), Look(10 ** 19, []), Look(0, [[many]]), Look(0, [[many + 5]], moment=1), None, True, 0, "", (), [], {},
            [Look(0, [])], (0, [], None), store, Desk(store)]


class DeskCase(LooksleftCase):

    def state_of(self, desk):
        return (desk.looks, desk.lines(), [desk.ahead(house) for house in range(desk.store.tree.houses)], desk.past(3))

    def check_refused(self, desk, error, told, function, *args):
        """The call raises the error and changes nothing."""
        before = self.state_of(desk)
        with self.assertRaises(error) as caught:
            function(*args)
        self.assertEqual(type(caught.exception), error)
        self.assertEqual(vars(caught.exception), told)
        self.assertEqual(self.state_of(desk), before)


class TestDeeds(DeskCase):

    def test_long_rows_of_deeds_by_two_desks_by_turns(self):
        chooser = random.Random(141)
        self.kinds = []
        for _ in range(25):
            search = chooser.choice(cases.searches())
            pairs = [(Desk(search.store), Model(search)) for _ in range(2)]
            common = cases.looks_of_one_history(chooser, search)
            for _ in range(70):
                desk, model = chooser.choice(pairs)
                self.do_one(desk, model, common, chooser)
                self.assertEqual(type(desk.looks), tuple)
                self.assertEqual(len(desk.looks), len(model.looks))
                self.assertTrue(all(first == second for first, second in zip(desk.looks, model.looks)))
                self.assertTrue(desk.store == search.store)
        for kind in ("add", "full", "unfit", "wrong", "drop", "no index", "undo", "no undo", "redo", "no redo"):
            self.assertGreater(self.kinds.count(kind), 8, kind)

    def do_one(self, desk, model, common, chooser):
        deed = chooser.choice(["add", "add", "add", "add", "wrong", "drop", "undo", "undo", "redo", "redo", "tried"])
        if deed in ("add", "tried"):
            self.add_or_try(desk, model, deed, self.some_look(model.search, common, chooser))
        elif deed == "wrong":
            look = chooser.choice(wrong_looks(model.search.store))
            self.refuses_given(InvalidLook, look, chooser.choice([desk.add, desk.tried]), look)
            self.kinds.append("wrong")
        elif deed == "drop":
            self.drop(desk, model, chooser)
        else:
            self.back_or_forth(desk, model, deed)

    def some_look(self, search, common, chooser):
        drawn = common if common and chooser.random() < 0.8 else cases.looks_of_any_kind(chooser, search)
        return chooser.choice(drawn or [Look(0, [])])

    def add_or_try(self, desk, model, deed, look):
        if len(model.looks) == 9:
            self.refuses(Full, {"many": 10}, getattr(desk, deed), look)
            self.kinds.append("full")
            return
        found = desk.tried(look)
        self.assertIs(found is None, model.fits(look))
        if found is not None:
            self.assertTrue(is_right_picture(model.search.store, model.looks + [look], found))
        if deed == "tried":
            return
        if found is None:
            self.assertEqual(desk.add(look), len(model.looks))
            model.go_on(model.looks + [look])
            self.kinds.append("add")
        else:
            self.refuses(DoNotFit, {"picture": found}, desk.add, look)
            self.kinds.append("unfit")

    def drop(self, desk, model, chooser):
        many = len(model.looks)
        index = chooser.choice([*range(many), *range(many), -1, many, True, None, "0", many + 3])
        if isinstance(index, int) and not isinstance(index, bool) and 0 <= index < many:
            self.assertTrue(desk.drop(index) == model.looks[index])
            model.go_on(model.looks[:index] + model.looks[index + 1:])
            self.kinds.append("drop")
        else:
            self.refuses_given(InvalidIndex, index, desk.drop, index)
            self.kinds.append("no index")

    def back_or_forth(self, desk, model, deed):
        step = -1 if deed == "undo" else 1
        if 0 <= model.at + step < len(model.states):
            self.assertIsNone(getattr(desk, deed)())
            model.at += step
            self.kinds.append(deed)
        else:
            self.refuses(NothingToUndo if deed == "undo" else NothingToRedo, {}, getattr(desk, deed))
            self.kinds.append("no " + deed)

    def test_at_first(self):
        desk = Desk(STORE)
        self.assertEqual((desk.looks, desk.lines()), ((), [STORE.line()]))
        self.assertTrue(desk.store == STORE)
        self.check_refused(desk, NothingToUndo, {}, desk.undo)
        self.check_refused(desk, NothingToRedo, {}, desk.redo)
        self.check_refused(desk, InvalidIndex, {"given": 0}, desk.drop, 0)
        self.assertTrue(Desk(store=STORE).store == STORE)

    def test_one_look_object_put_in_twice(self):
        desk, look = Desk(STORE), Look(0, [[0]], moment=3)
        self.assertEqual([desk.add(look), desk.add(Look(1, [])), desk.add(look)], [0, 1, 2])
        self.assertTrue(desk.drop(0) == look)
        self.assertEqual([item.house for item in desk.looks], [1, 0])
        desk.undo()
        self.assertEqual([item.house for item in desk.looks], [0, 1, 0])
        desk.undo()
        desk.undo()
        self.assertEqual(len(desk.looks), 1)

    def test_a_look_dropped_and_taken_back_stands_at_its_index_again(self):
        desk, looks = Desk(STAR), [Look(house, []) for house in range(4)]
        for look in looks:
            desk.add(look)
        for index in range(4):
            self.assertEqual(desk.drop(index).house, index)
            self.assertEqual([look.house for look in desk.looks], [house for house in range(4) if house != index])
            desk.undo()
            self.assertEqual([look.house for look in desk.looks], [0, 1, 2, 3])
            desk.redo()
            self.assertEqual(len(desk.looks), 3)
            desk.undo()
        self.assertEqual(desk.add(Look(0, [])), 4)

    def test_ten_looks(self):
        desk, look = Desk(STORE), Look(0, [])
        for index in range(9):
            self.assertEqual(desk.add(look), index)
        for function in (desk.add, desk.tried):
            self.check_refused(desk, Full, {"many": 10}, function, look)
            self.check_refused(desk, Full, {"many": 10}, function, Look(0, [[1], [0]], moment=1))
            self.check_refused(desk, InvalidLook, {"given": "look"}, function, "look")
        desk.drop(8)
        self.assertEqual((desk.add(look), len(desk.looks)), (8, 9))

    def test_errors_in_order_and_a_right_picture(self):
        desk = Desk(STORE)
        desk.add(Look(0, [[0]], moment=5))
        for function in (desk.add, desk.tried):
            for look in wrong_looks(STORE) + odd_values():
                if not isinstance(look, Look) or look.house > 1 or max([0, *look.come]) > 1:
                    with self.assertRaises(InvalidLook) as caught:
                        function(look)
                    self.assertIs(caught.exception.given, look)
        late = Look(0, [], moment=6)
        with self.assertRaises(DoNotFit) as caught:
            desk.add(late)
        self.assertEqual(caught.exception.picture, desk.tried(late))
        self.assertEqual(caught.exception.picture, ("time", 1, 0, 0))
        self.assertEqual(caught.exception.picture, picture(STORE, [Look(0, [[0]], moment=5), late]))
        self.assertIsNone(desk.tried(Look(0, [], moment=4)))

    def test_indices(self):
        desk = Desk(STORE)
        desk.add(Look(0, []))
        desk.add(Look(1, []))
        for index in no_numbers() + [-1, -2, 2, 3]:
            self.refuses_given(InvalidIndex, index, desk.drop, index)
        self.assertEqual([desk.drop(1).house, desk.drop(index=0).house], [1, 0])
        self.refuses_given(InvalidIndex, 0, desk.drop, 0)

    def test_a_refused_deed_changes_nothing_and_can_be_followed_by_redo(self):
        desk = Desk(STORE)
        desk.add(Look(0, [[0]], moment=5))
        desk.add(Look(1, []))
        desk.undo()
        self.check_refused(desk, InvalidLook, {"given": None}, desk.add, None)
        self.check_refused(desk, DoNotFit, {"picture": ("time", 1, 0, 0)}, desk.add, Look(0, [], moment=5))
        self.check_refused(desk, InvalidIndex, {"given": 1}, desk.drop, 1)
        self.assertEqual(desk.tried(Look(0, [], moment=5)), ("time", 1, 0, 0))
        self.assertIsNone(desk.tried(Look(0, [])))
        self.assertIsNone(desk.redo())
        self.assertEqual([look.house for look in desk.looks], [0, 1])
        self.check_refused(desk, NothingToRedo, {}, desk.redo)
        desk.undo()
        desk.undo()
        self.check_refused(desk, NothingToUndo, {}, desk.undo)
        desk.redo()
        desk.redo()
        self.assertEqual(len(desk.looks), 2)

    def test_a_new_deed_drops_what_could_be_done_again(self):
        desk = Desk(STORE)
        for look in (Look(0, []), Look(1, [])):
            desk.add(look)
        desk.undo()
        desk.undo()
        desk.add(Look(1, [[0]]))
        self.check_refused(desk, NothingToRedo, {}, desk.redo)
        desk.add(Look(0, []))
        desk.undo()
        desk.drop(0)
        self.check_refused(desk, NothingToRedo, {}, desk.redo)
        desk.undo()
        desk.redo()
        self.assertEqual(desk.looks, ())
        desk.undo()
        desk.undo()
        self.check_refused(desk, NothingToUndo, {}, desk.undo)

    def test_two_desks_of_one_store(self):
        first, second = Desk(STORE), Desk(STORE)
        look = Look(0, [[0]], moment=5)
        first.add(look)
        self.assertEqual((len(first.looks), len(second.looks)), (1, 0))
        self.assertEqual(second.add(Look(0, [], moment=5)), 0)
        self.refuses(NothingToRedo, {}, first.redo)
        second.undo()
        second.add(look)
        self.assertEqual(first.lines(), second.lines())
        first.undo()
        self.assertEqual((first.looks, len(second.looks)), ((), 1))


class TestQuestions(DeskCase):

    def check_questions(self, desk):
        store, looks = desk.store, list(desk.looks)
        for house in range(store.tree.houses):
            self.assertEqual(desk.ahead(house), ahead(store, looks, house))
            for moment in (-1, 0, 2, 5):
                self.assertEqual(desk.least(house, moment), least(store, looks, house, moment))
                self.assertEqual(desk.greatest(house, moment), greatest(store, looks, house, moment))
                self.assertEqual(desk.shown(house, moment, 0), shown(store, looks, house, moment, 0))
                self.assertEqual(desk.shown(house, moment, 5), [None])
        for moment in (-1, 0, 2, 5):
            self.assertEqual(desk.past(moment), least_past(store, looks, moment))

    def test_as_the_functions_of_the_other_files_tell(self):
        chooser = random.Random(143)
        for search, looks, _ in cases.fitting_looks(143, 150, 5):
            desk = Desk(search.store)
            for look in looks:
                desk.add(look)
            self.check_questions(desk)
            for _ in range(chooser.randint(0, len(looks))):
                desk.undo()
            self.check_questions(desk)
            if looks:
                desk.add(looks[-1])
                desk.drop(chooser.randrange(len(desk.looks)))
                self.check_questions(desk)
                desk.undo()
                desk.redo()
                self.check_questions(desk)

    def test_told_lists_changed_and_asked_again(self):
        desk = Desk(STORE)
        desk.add(Look(0, [[1]], moment=5))
        for function, args in ((desk.ahead, (1,)), (desk.least, (1, 5)), (desk.greatest, (0, 9)), (desk.shown, (0, 4, 0)), (desk.past, (5,)),
                               (desk.lines, ())):
            told = function(*args)
            expected = list(told)
            self.new_lists(told, function(*args))
            told.clear()
            self.assertEqual(function(*args), expected)
        desk.past(5)[0].clear()
        self.assertEqual(desk.past(5), [[1], [1]])

    def test_houses_ahead_of_moments_ahead_of_cells(self):
        desk = Desk(STORE)
        desk.add(Look(0, [[1]], moment=5))
        for house in no_numbers() + [-1, 2]:
            for function, args in ((desk.ahead, ()), (desk.least, (None,)), (desk.greatest, (None,)), (desk.shown, (None, None))):
                self.refuses_given(InvalidHouse, house, function, house, *args)
        for moment in (None, True, False, "5", "", [], [5], (5,), {}, STORE):
            for function, args in ((desk.least, (0, moment)), (desk.greatest, (0, moment)), (desk.shown, (0, moment, None)), (desk.past, (moment,))):
                self.refuses_given(InvalidMoment, moment, function, *args)
        for cell in no_numbers() + [-1, 6]:
            self.refuses_given(InvalidCell, cell, desk.shown, 0, 5, cell)

    def test_arguments_by_name(self):
        desk = Desk(STORE)
        self.assertEqual(desk.add(look=Look(0, [[1]], moment=5)), 0)
        self.assertEqual([desk.ahead(house=1), desk.least(moment=5, house=1), desk.greatest(house=0, moment=5)], [[(1, 0)], [1], [1]])
        self.assertEqual([desk.shown(cell=0, moment=4, house=0), desk.past(moment=5), desk.tried(look=Look(1, []))], [[None, 1], [[1], [1]], None])


class TestLines(DeskCase):

    def test_lines_of_looks_of_all_kinds(self):
        far = 10 ** 20 - 1
        store = Store(Tree(3, [(0, 1), (1, 2)]), [0, 1, 1], cells=[5, 0, 3])
        desk = Desk(store)
        told = {"0:": Look(0, []), "2: @ 0": Look(2, [], moment=0), f"1: @ -{far}": Look(1, [], moment=-far), "0: 0": Look(0, [[0]]),
                "0: 0 1 2": Look(0, [(2, 1, 0)]), "1: 0 | 1 | 2 @ 7": Look(1, [[0], [1], [2]], moment=7), "1: 0 | 1 2": Look(1, [[0], [2, 1]]),
                f"0: 0 1 2 @ {far}": Look(0, [[2, 0, 1]], moment=far), "0: 0 @ -1": Look(0, [[0]], moment=-1)}
        for look in told.values():
            desk.add(look)
        self.assertEqual(desk.lines(), ["3: 0-1 1-2 / 0.5 1.0 1.3", *told])
        self.assertEqual((type(desk.lines()), {type(line) for line in desk.lines()}), (list, {str}))
        desk.drop(0)
        self.assertEqual(desk.lines()[1:], list(told)[1:])

    def test_numbers_of_two_digits(self):
        store = Store(line_tree(16), [15] * 12)
        desk = Desk(store)
        desk.add(Look(15, [[write] for write in range(10)] + [[11, 10]]))
        self.assertEqual(desk.lines()[1], "15: 0 | 1 | 2 | 3 | 4 | 5 | 6 | 7 | 8 | 9 | 10 11")


class TestLimits(DeskCase):

    def test_the_greatest_stores(self):
        chooser = random.Random(144)
        for store in big_stores():
            states = chance_run(store, chooser)[1]
            looks = nine_looks(states, chooser)
            desk = Desk(store)
            for index, look in enumerate(looks):
                self.assertEqual(desk.add(look), index)
            house, moment = chooser.randrange(16), chooser.randrange(193)
            for _ in range(2):
                self.assertEqual(desk.ahead(house), ahead(store, looks, house))
                self.assertEqual(desk.least(house, moment), least(store, looks, house, moment))
                self.assertEqual(desk.greatest(house, moment), greatest(store, looks, house, moment))
                self.assertEqual(desk.shown(house, moment, 1), shown(store, looks, house, moment, 1))
                self.assertEqual(desk.past(moment), least_past(store, looks, moment))
                desk.undo()
                looks.pop()
            bent = Look(looks[0].house, [[write] for write in states[-1][looks[0].house][::-1]], moment=looks[0].moment)
            found = desk.tried(bent)
            if found is not None:
                self.assertTrue(is_right_picture(store, looks + [bent], found))
                self.refuses(DoNotFit, {"picture": found}, desk.add, bent)
            self.assertEqual(len(desk.looks), 7)
            self.assertEqual(brute.come(desk.looks[0]), set(looks[0].come))


if __name__ == "__main__":
    unittest.main()
