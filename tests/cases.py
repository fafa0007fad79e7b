"""Small stores with lists of looks, made by a fixed rule, for tests against a search."""

import functools
import random

from looksleft.looks import Look
from looksleft.stores import Store
from looksleft.trees import Tree
from tests import brute
from tests.tools import line_tree, star_tree


@functools.lru_cache(maxsize=None)
def searches():
    """Small stores, each with the search through all its states."""
    stores = [Store(Tree(1, []), [0, 0]), Store(line_tree(2), []), Store(line_tree(2), [0, 1]),
              Store(line_tree(2), [0, 1, 0]), Store(line_tree(2), [0, 1, 1, 0]), Store(line_tree(3), [0, 2, 0]),
              Store(line_tree(3), [2, 0, 1]), Store(line_tree(3), [1, 2, 0]), Store(star_tree(4), [1, 2, 3]),
              Store(star_tree(4), [3, 1, 1]), Store(line_tree(4), [0, 3, 1]), Store(line_tree(4), [2, 0])]
    return [brute.Search(store) for store in stores]


@functools.lru_cache(maxsize=None)
def greater_searches():
    """Stores with four writes, each with the search through all its states, of which there are more."""
    stores = [Store(star_tree(4), [1, 2, 3, 0]), Store(line_tree(4), [0, 3, 1, 2]), Store(line_tree(3), [0, 2, 1, 0]),
              Store(star_tree(4), [1, 2, 3, 1])]
    return [brute.Search(store) for store in stores]


def in_lots(chooser, writes, apart):
    lots = []
    for write in writes:
        if lots and chooser.random() > apart:
            lots[-1].append(write)
        else:
            lots.append([write])
    return lots


def looks_of_one_history(chooser, search):
    """Looks that were taken in one history, moments with it or left out."""
    states = [search.first]
    while search.table[states[-1]]:
        states.append(chooser.choice(search.table[states[-1]])[1])
    looks = []
    for _ in range(chooser.randint(0, 6)):
        place, house = chooser.randrange(len(states)), chooser.randrange(search.store.tree.houses)
        moment = place // chooser.choice([1, 3]) if chooser.random() < 0.6 else None
        looks.append(Look(house, in_lots(chooser, states[place][house], 0.5), moment=moment))
    return looks


def middle_case(chooser):
    """A store that is too great for a search, and looks that were taken in one of its histories."""
    houses, many = chooser.randint(3, 6), chooser.randint(5, 12)
    tree = Tree(houses, sorted((chooser.randrange(house), house) for house in range(1, houses)))
    store = Store(tree, [chooser.randrange(houses) for _ in range(many)])
    states = [brute.start(store)]
    while brute.deeds(store, states[-1]):
        states.append(chooser.choice(brute.deeds(store, states[-1]))[1])
    looks = []
    for place in sorted(chooser.sample(range(len(states)), chooser.randint(1, 6))):
        house = chooser.randrange(houses)
        lots = in_lots(chooser, states[place][house], 0.5)
        looks.append(Look(house, lots, moment=chooser.choice([place, None, None])))
    return store, looks


def looks_of_any_kind(chooser, search):
    """Looks that tell what they like."""
    looks = []
    for _ in range(chooser.randint(0, 5)):
        writes = chooser.sample(range(len(search.store)), chooser.randint(0, len(search.store)))
        looks.append(Look(chooser.randrange(search.store.tree.houses), in_lots(chooser, writes, 0.4),
                          moment=chooser.choice([None, None, 1, 2, 3])))
    return looks


def some_looks(seed, many):
    """Tuples (search, looks), so many."""
    chooser = random.Random(seed)
    for _ in range(many):
        search = chooser.choice(searches())
        make = chooser.choice([looks_of_one_history, looks_of_any_kind])
        yield search, make(chooser, search)


def fitting_looks(seed, many, greater=0):
    """Tuples (search, looks, ends) with looks that fit and the books of all histories that fit them."""
    for search, looks in some_looks(seed, many):
        ends = search.ends(looks)
        if ends:
            yield search, looks, ends
    chooser = random.Random(seed)
    for _ in range(greater):
        search = chooser.choice(greater_searches())
        looks = looks_of_one_history(chooser, search)
        ends = search.ends(looks)
        if ends:
            yield search, looks, ends


def unfit_looks(seed, many):
    """Tuples (store, looks) with looks that do not fit."""
    for search, looks in some_looks(seed, many):
        if not search.ends(looks):
            yield search.store, looks


def equal_ones(store, looks):
    """A store and a tuple of looks, new ones that are equal to the given ones."""
    again = Store(Tree(store.tree.houses, list(store.tree.roads)), list(store.homes), cells=list(store.cells))
    return again, tuple(Look(look.house, [list(lot)[::-1] for lot in look.lots], moment=look.moment) for look in looks)
