"""All functions of the interface, with their arguments in the order of the document, and calls of each of them."""

import importlib
import inspect

from looksleft.ahead import ahead
from looksleft.clocks import clock_ring
from looksleft.looks import Look
from looksleft.rows import row_at
from looksleft.stores import Store
from looksleft.tables import all_tables
from tests import brute

# For each file the functions, each with its arguments; behind a * those that are passed by name alone.
FUNCTIONS = {
    "trees": ["neighbours tree house", "ends tree", "way tree a b", "distance tree a b", "middle tree a b c", "on_way tree a b house",
              "side tree u v", "span tree houses", "read_tree line"],
    "stores": ["made_in store house", "written store cell", "read_store line"],
    "running": ["is_script store value", "run store script"],
    "books": ["is_books store value", "is_book_fault store books value", "book_fault store books", "earliest store books",
              "is_moments store books value", "script_of store books", "seen store books", "is_standing store books value",
              "stand store books counts"],
    "looks": ["borders look", "is_looks store value", "count_look store house firsts * moment=None"],
    "pictures": ["arrows store looks house", "is_picture store looks value", "picture store looks", "looks_fit store looks"],
    "histories": ["is_fitting store looks value", "history store looks", "is_history store looks value"],
    "ahead": ["ahead store looks house", "is_ahead store looks house x z", "verdict store looks house x z", "why_ahead store looks house x z",
              "is_paper store looks house x z value", "behind_books store looks house x z", "closed store looks house lot",
              "with_lot store looks house lot"],
    "rows": ["count_rows store looks house", "is_row store looks house value", "row_of store looks house", "open_pairs store looks house",
             "row_at store looks house index", "row_books store looks house row"],
    "needs": ["needless store looks", "needs store books", "stretch store books house index", "apart store books", "is_needs store books value",
              "is_apart store books value"],
    "later": ["no_later store looks house other", "is_no_later store looks house other x z", "why_no_later store looks house other x z",
              "is_why_no_later store looks house other x z value", "earlier_standing store looks house other x z"],
    "come": ["least store looks house moment", "greatest store looks house moment", "can_have store looks house moment lot",
             "fate store looks house moment write", "count_lots store looks house moment", "lot_at store looks house moment index"],
    "reasons": ["why_come store looks house moment write", "why_missing store looks house moment write",
                "is_why_come store looks house moment write value", "is_why_missing store looks house moment write value",
                "have_history store looks house moment lot"],
    "shown": ["shown store looks house moment cell", "shown_history store looks house moment cell write", "at_last store looks house cell",
              "last_books store looks house write", "common store looks cell", "sure_common store looks cell", "common_books store looks write"],
    "pasts": ["least_past store looks moment", "greatest_past store looks moment", "is_past store value", "can_be_past store looks moment past",
              "past_picture store looks moment past"],
    "whole": ["past_history store looks * greatest=False", "is_past_history store looks value * greatest=False", "resume store looks"],
    "clocks": ["sooner_pairs store looks", "sooner_by store looks i j", "is_pairs store looks value", "clock_ring store looks pairs",
               "is_clock_ring store looks pairs value", "clock_history store looks pairs"],
    "partly": ["least_by store looks pairs house * before=() behind=()", "greatest_by store looks pairs house * before=() behind=()",
               "can_have_by store looks pairs house lot * before=() behind=()"],
    "balance": ["last_lot store books house count * cell=None", "own_lines store books count * cell=None",
                "exchanges store books count * cell=None", "copies store books", "parting store books cell"],
    "tables": ["is_last_table store cell value", "count_last_tables store cell", "table_books store cell table"],
    "asks": ["is_answers store cell value", "verdict_of store cell answers", "next_ask store cell answers", "alone store house book cell",
             "parted_books store house book cell"],
    "journal": ["read_desk lines"],
}

CLASSES = {
    "trees": {"Tree": ["houses roads", "line", "__len__", "__contains__ value", "__eq__ other"]},
    "stores": {"Store": ["tree homes * cells=None", "line", "__len__", "__eq__ other"]},
    "running": {"Running": ["store", "make house", "hand u v", "book house", "under_way u v", "shows house", "settle"]},
    "looks": {"Look": ["house lots * moment=None", "__len__", "__contains__ value", "__iter__", "__eq__ other"]},
    "desk": {"Desk": ["store", "add look", "drop index", "undo", "redo", "tried look", "ahead house", "least house moment",
                      "greatest house moment", "shown house moment cell", "past moment", "lines"]},
}

# The values that is_.. functions judge, each made by another function, so that many of them are right.
MAKERS = {"is_script": "script_of", "is_books": "row_books", "is_book_fault": "book_fault", "is_moments": "earliest", "is_standing": None,
          "is_looks": "with_lot", "is_picture": "picture", "is_fitting": "behind_books", "is_history": "history", "is_paper": "why_ahead",
          "is_row": "row_at", "is_needs": "needs", "is_apart": "apart", "is_why_no_later": "why_no_later", "is_why_come": "why_come",
          "is_why_missing": "why_missing", "is_past": "least_past", "is_past_history": "past_history", "is_pairs": "sooner_pairs",
          "is_clock_ring": "clock_ring", "is_last_table": None, "is_answers": None}


def parse(told):
    """A tuple of a name, its arguments by position, and its arguments by name alone."""
    name, *words = told.split()
    at = words.index("*") if "*" in words else len(words)
    return name, words[:at], words[at + 1:]


def all_functions():
    """Tuples (name, function, arguments by position, arguments by name alone with their defaults)."""
    for file, listed in FUNCTIONS.items():
        module = importlib.import_module(f"looksleft.{file}")
        for told in listed:
            name, given, named = parse(told)
            yield name, getattr(module, name), given, named


def listed_parameters(given, named):
    """What inspect tells of the parameters of a function with these arguments."""
    kinds = inspect.Parameter
    found = [(name, kinds.POSITIONAL_OR_KEYWORD, kinds.empty) for name in given]
    return found + [(word.split("=")[0], kinds.KEYWORD_ONLY, eval(word.split("=")[1])) for word in named]


def parameters_of(function):
    return [(name, told.kind, told.default) for name, told in inspect.signature(function).parameters.items()]


class Pool:
    """For one store and its looks, values for the arguments of all functions."""

    def __init__(self, store, looks, chooser):
        self.store, self.looks, self.chooser = store, looks, chooser
        self.books = [list(book) for book in brute.states_of(store, brute.chance_script(store, chooser))[-1]]
        self.made = {}

    def value_of(self, name, function):
        """A value for an argument of a function, right for its kind."""
        return getattr(self, "some_" + name)(function) if hasattr(self, "some_" + name) else getattr(self, "all_" + KINDS[name])()

    def all_house(self):
        return self.chooser.randrange(self.store.tree.houses)

    def all_write(self):
        return self.chooser.randrange(len(self.store))

    def all_index(self):
        return self.chooser.randrange(3)

    def all_moment(self):
        return self.chooser.choice([look.moment for look in self.looks if look.moment is not None] + [0, 4])

    def all_lot(self):
        return self.chooser.sample(range(len(self.store)), self.chooser.randint(0, len(self.store)))

    def some_cell(self, function):
        of_tables = function in ("is_last_table", "table_books", "is_answers", "verdict_of", "next_ask")
        return self.store.cells[0] if of_tables else self.chooser.choice(self.store.cells)

    def some_tree(self, _):
        return self.store.tree

    def some_store(self, _):
        return self.store

    def some_looks(self, _):
        return self.looks

    def some_look(self, _):
        return self.looks[0] if self.looks else Look(0, [])

    def some_books(self, _):
        return self.books

    def some_houses(self, _):
        return [self.all_house() for _ in range(3)]

    def some_u(self, _):
        self.road = self.chooser.choice(self.store.tree.roads or ((0, 0),))
        return self.road[0]

    def some_v(self, _):
        return self.road[1]

    def some_line(self, function):
        return self.store.tree.line() if function == "read_tree" else self.store.line()

    def some_lines(self, _):
        return [self.store.line(), "0:"]

    def some_script(self, _):
        return brute.chance_script(self.store, self.chooser, self.books)

    def some_counts(self, _):
        states = brute.states_of(self.store, self.some_script(None))
        return [len(book) for book in self.chooser.choice(states)]

    def some_firsts(self, _):
        return [self.chooser.randint(0, self.store.homes.count(house)) for house in range(self.store.tree.houses)]

    def some_row(self, _):
        return row_at(self.store, self.looks, 0, 0)

    def some_past(self, _):
        return [[] for _ in range(self.store.tree.houses)]

    def some_pairs(self, function):
        pairs = [(i, j) for i in range(len(self.looks)) for j in range(len(self.looks)) if i < j]
        if function in ("clock_ring", "is_clock_ring"):
            # As many as can be, so that there is a ring if any look is sooner than another one.
            return sorted(pairs + [(j, i) for i, j in pairs])
        found = sorted(self.chooser.sample(pairs, min(len(pairs), 2)))
        return [] if clock_ring(self.store, self.looks, found) else found

    def some_before(self, _):
        return list(range(min(len(self.looks), 1)))

    def some_behind(self, _):
        return []

    def some_greatest(self, _):
        return self.chooser.random() < 0.5

    def some_count(self, _):
        return 1

    def some_table(self, _):
        return self.chooser.choice([list(table) for table in all_tables(self.store, self.store.cells[0])])

    def some_answers(self, _):
        return list(enumerate(self.some_table(None)))[:1]

    def some_book(self, _):
        return self.books[0]

    def some_x(self, function):
        if function in ("why_ahead", "is_paper", "behind_books"):
            found = ahead(self.store, self.looks, 0)
            self.pair = self.chooser.choice(found or [(0, len(self.store) - 1)])
        else:
            self.pair = tuple((self.chooser.sample(range(len(self.store)), 2) if len(self.store) > 1 else [0, 0]))
        return self.pair[0]

    def some_z(self, _):
        return self.pair[1]

    def some_value(self, function):
        """What another function told, if anything; else something of the kind."""
        if function == "is_standing":
            return self.some_counts(None)
        if function in ("is_last_table", "is_answers"):
            return self.some_table(None) if function == "is_last_table" else self.some_answers(None)
        return self.made.get(MAKERS[function])


KINDS = {"house": "house", "a": "house", "b": "house", "c": "house", "other": "house", "write": "write", "index": "index", "i": "index",
         "j": "index", "moment": "moment", "lot": "lot"}


def calls(pool):
    """A tuple (name, function, arguments, arguments by name alone) for each function, for one store and its looks.

    Each one is yielded before it is called, so that what it tells can be put into pool.made for later ones.
    """
    listed = sorted(all_functions(), key=lambda told: told[0].startswith("is_"))
    for name, function, given, named in listed:
        args = {argument: pool.value_of(argument, name) for argument in given}
        more = {word.split("=")[0]: pool.value_of(word.split("=")[0], name) for word in named}
        if name == "row_books":
            args["row"] = row_at(pool.store, pool.looks, args["house"], 0)
        yield name, function, args, more


def catalogue_store(store):
    """The store with at least two writes of cell 0, if it has writes."""
    return Store(store.tree, store.homes, cells=[0 if write % 3 else 2 * (write > 5) for write in range(len(store))])
