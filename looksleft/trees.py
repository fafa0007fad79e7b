"""Trees of houses and roads, and the ways in them."""

from looksleft.checks import are_between, is_between, is_digits, is_list, read_pair
from looksleft.errors import InvalidHouse, InvalidHouseList, InvalidHouses, InvalidLine, InvalidRoads
from looksleft.errors import NotARoad, NotJoined

MOST_HOUSES = 16


class Tree:
    """A tree of houses; it never changes."""

    def __init__(self, houses, roads):
        if not is_between(houses, 1, MOST_HOUSES):
            raise InvalidHouses(houses)
        if not _are_roads(houses, roads):
            raise InvalidRoads(roads)
        toward = _all_steps(houses, roads)
        for house in range(houses):
            if toward[0][house] is None:
                raise NotJoined(house)
        self.houses = houses
        self.roads = tuple(roads)
        self._toward = toward
        # Ways are asked for so often that it is worth the while to walk each one but once.
        self._ways = [[_walk(steps, house) for house in range(houses)] for steps in toward]

    def __len__(self):
        return len(self._toward)

    def __contains__(self, value):
        return is_between(value, 0, self.houses - 1)

    def __eq__(self, other):
        return isinstance(other, Tree) and self.houses == other.houses and self.roads == other.roads

    def line(self):
        """The line of the tree, which read_tree reads."""
        return "".join([f"{self.houses}:"] + [f" {u}-{v}" for u, v in self.roads])

    def step(self, house, target):
        """The next house on the way from a house to a target; the house itself if it is the target."""
        return self._toward[target][house]

    def passed(self, house, target):
        """The houses on the way from a house to a target, in their order."""
        return self._ways[target][house]


def _are_roads(houses, value):
    if not is_list(value) or len(value) != houses - 1:
        return False
    if not all([_is_low_high(houses, road) for road in value]):
        return False
    return all([value[at] < value[at + 1] for at in range(len(value) - 1)])


def _is_low_high(houses, value):
    if not isinstance(value, tuple) or len(value) != 2 or not are_between(value, 0, houses - 1):
        return False
    return value[0] < value[1]


def _all_steps(houses, roads):
    """For each target the list of the next houses on the ways from all houses to it."""
    near = [[] for _ in range(houses)]
    for u, v in roads:
        near[u].append(v)
        near[v].append(u)
    return [_steps_to(near, target) for target in range(houses)]


def _steps_to(near, target):
    """For each house the next one on the way to the target, or None where no way leads to it."""
    steps = [None] * len(near)
    steps[target] = target
    reached = [target]
    while reached:
        house = reached.pop()
        for further in near[house]:
            if steps[further] is None:
                steps[further] = house
                reached.append(further)
    return steps


def _walk(steps, house):
    """The houses on the way from a house to the target of some steps."""
    passed = [house]
    while steps[passed[-1]] != passed[-1]:
        passed.append(steps[passed[-1]])
    return tuple(passed)


def check_house(tree, house):
    """Refuse a value that is not a house of the tree."""
    if house not in tree:
        raise InvalidHouse(house)


def is_road(tree, u, v):
    """Whether two houses of the tree are neighbours."""
    return u != v and tree.step(u, v) == v


def check_road(tree, u, v):
    """Refuse two values that are not neighbours of the tree."""
    check_house(tree, u)
    check_house(tree, v)
    if not is_road(tree, u, v):
        raise NotARoad(u, v)


def neighbours(tree, house):
    """The neighbours of a house."""
    check_house(tree, house)
    return [other for other in range(tree.houses) if is_road(tree, house, other)]


def both_ways(tree):
    """All tuples (u, v) of neighbours, either one first, in ascending order."""
    return [(u, v) for u in range(tree.houses) for v in neighbours(tree, u)]


def ends(tree):
    """The houses with at most one road."""
    return [house for house in range(tree.houses) if len(neighbours(tree, house)) <= 1]


def way(tree, a, b):
    """The houses on the way from a to b, in their order."""
    check_house(tree, a)
    check_house(tree, b)
    return tree.passed(a, b)


def distance(tree, a, b):
    """The number of roads on the way from a to b."""
    return len(way(tree, a, b)) - 1


def middle(tree, a, b, c):
    """The one house that is on all three ways between three houses."""
    for house in (a, b, c):
        check_house(tree, house)
    passed = way(tree, a, b)
    # The way from c to any house of the way from a to b enters that way at the middle.
    house = c
    while house not in passed:
        house = tree.step(house, a)
    return house


def on_way(tree, a, b, house):
    """Whether a house is on the way from a to b."""
    for asked in (a, b, house):
        check_house(tree, asked)
    return house in way(tree, a, b)


def on_side(tree, u, v, house):
    """Whether a house is on u's side of the road between the neighbours u and v."""
    return tree.step(v, house) == u


def side(tree, u, v):
    """The houses on u's side of the road between u and v."""
    check_road(tree, u, v)
    return [house for house in range(tree.houses) if on_side(tree, u, v, house)]


def span(tree, houses):
    """All houses that are on a way from one of the houses to one of them."""
    if not are_between(houses, 0, tree.houses - 1):
        raise InvalidHouseList(houses)
    # The ways from the first house to all others already make up the whole of it.
    return sorted({passed for house in houses for passed in way(tree, houses[0], house)})


def read_tree(line):
    """The tree that has this line."""
    tree = _told_tree(line)
    # The words are read loosely; that the tree has this very line decides.
    if tree is None or tree.line() != line:
        raise InvalidLine(line)
    return tree


def _told_tree(line):
    if not isinstance(line, str):
        return None
    many, _, rest = line.partition(":")
    if not is_digits(many):
        return None
    try:
        return Tree(int(many), [read_pair(word, "-") for word in rest.split()])
    except (InvalidHouses, InvalidRoads, NotJoined):
        return None
