"""Guards: the cheapest roads to guard such that a bound is sure, with heights and a tree that show it."""

from shutroads.errors import BadBound, TooLarge, TooShort
from shutroads.maps import are_roads, check_map, is_road, is_within, open_length, road_lengths, small_sets
from shutroads.sure import Parted, StateGame, parting_world
from shutroads.tables import (
    NOTHING, all_that_comes_about, as_fractions, heights_hold, least_costs, levels_from, levels_hold
)
from shutroads.walks import first_states, is_state

LEAST_BOUND = 1
GREATEST_BOUND = 60
MOST_GUARD_ROADS = 6


class Guards:
    """Roads with which a bound is sure, with heights that show it, and a tree that shows that none are cheaper."""

    def __init__(self, guarded, heights, tree):
        self.guarded = guarded
        self.heights = {state: heights[state] for state in heights}
        self.tree = _copied(tree)

    def __eq__(self, other):
        return (isinstance(other, Guards) and self.guarded == other.guarded and self.heights == other.heights
                and self.tree == other.tree)

    def __iter__(self):
        return iter(self.guarded)

    def shows(self, chart, bound):
        """Return whether the heights and the tree show that the guarded roads are the cheapest ones for a bound."""
        _check_question(chart, bound)
        if not are_roads(chart, self.guarded) or not _are_enough(chart, bound, self.guarded, self.heights):
            return False
        return TreeCheck(chart, bound, _price_of(chart, self.guarded)).is_right(self.tree, (), ())


class TreeCheck:
    """What a tree must be to show that no guards below a price are enough for a bound."""

    def __init__(self, chart, bound, price):
        self.chart = chart
        self.bound = bound
        self.price = price

    def is_right(self, tree, inside, outside):
        """Return whether a value is a tree for some roads that are in, and some that are out."""
        if not isinstance(tree, tuple) or len(tree) != 3:
            return False
        head, one, two = tree
        if head == "price":
            return one is None and two is None and _price_of(self.chart, inside) >= self.price
        if head == "slow":
            return self.is_slow(one, two, outside)
        if not is_road(self.chart, head) or head in inside or head in outside:
            return False
        return self.is_right(one, (*inside, head), outside) and self.is_right(two, inside, (*outside, head))

    def is_slow(self, state, reason, outside):
        """Return whether the bound is too short from a state for a reason, though all roads but some are guarded."""
        if not is_state(self.chart, state) or state not in _guarded_states(self.chart, _all_but(self.chart, outside)):
            return False
        if isinstance(reason, Parted):
            return reason.shows(self.chart, state)
        if not isinstance(reason, dict) or state not in reason:
            return False
        return levels_hold(StateGame(self.chart), as_fractions(reason), NOTHING) and reason[state] > self.bound


class GuardSearch:
    """The least lengths from all states that can come about, whatever is guarded, and what follows for a bound."""

    def __init__(self, chart, bound):
        self.chart = chart
        self.bound = bound
        self.game = StateGame(chart)
        begins = [state for some in self.all_sets() for state in _guarded_states(chart, some)]
        self.least = least_costs(self.game, all_that_comes_about(self.game, begins, None))

    def all_sets(self):
        """Return the list of all ascending tuples of roads."""
        return small_sets(list(range(len(self.chart))), len(self.chart))

    def slow_states(self, guarded):
        """Return the list of the first states from which the bound is not sure with some guarded roads."""
        return [state for state in _guarded_states(self.chart, guarded)
                if state not in self.least or self.least[state] > self.bound]

    def cheapest(self):
        """Return the first ones of the cheapest roads with which the bound is sure."""
        enough = [some for some in self.all_sets() if self.slow_states(some) == []]
        return min(enough, key=lambda some: _price_of(self.chart, some))

    def least_from(self, states):
        """Return the least lengths of all states that can come about from some, which must all have one."""
        return {state: self.least[state] for state in all_that_comes_about(self.game, states, None)}

    def reason_for(self, state):
        """Return what shows that the length of a state is greater than the bound, or that there is none."""
        if state in self.least:
            return levels_from(self.least_from([state]))
        return Parted(parting_world(self.chart, state))

    def tree_for(self, price, inside, outside):
        """Return a tree for some roads that are in, and some that are out, which are the first ones together."""
        if _price_of(self.chart, inside) >= price:
            return "price", None, None
        slow = self.slow_states(_all_but(self.chart, outside))
        if slow != []:
            return "slow", slow[0], self.reason_for(slow[0])
        # With all roads in or out, one of the two holds: those that are in are too few, or no cheaper than the price.
        road = len(inside) + len(outside)
        return road, self.tree_for(price, (*inside, road), outside), self.tree_for(price, inside, (*outside, road))


def _copied(tree):
    """Return a tree in which all dicts and Parteds are new."""
    if isinstance(tree, tuple):
        return tuple([_copied(part) for part in tree])
    if isinstance(tree, dict):
        return {state: tree[state] for state in tree}
    return Parted(tree.world) if isinstance(tree, Parted) else tree


def _check_question(chart, bound):
    """Raise BadMap, BadBound or TooShort, the first one that applies."""
    check_map(chart)
    if not is_within(bound, LEAST_BOUND, GREATEST_BOUND):
        raise BadBound("not a bound")
    length = open_length(chart, ())
    if length is None or length > bound:
        raise TooShort("no way is within the bound")


def _price_of(chart, some):
    """Return what guards of some roads cost together."""
    lengths = road_lengths(chart)
    return sum([lengths[road] for road in some])


def _all_but(chart, some):
    """Return the ascending tuple of all roads but some."""
    return tuple([road for road in range(len(chart)) if road not in some])


def _guarded_states(chart, guarded):
    """Return the list of the first states with some guarded roads, in order."""
    return [
        (place, tuple(sorted(set([*clear, *guarded]))), shut) for place, clear, shut in first_states(chart)
        if not any([road in guarded for road in shut])
    ]


def _are_enough(chart, bound, guarded, heights):
    """Return whether heights show that a bound is sure with some guarded roads."""
    if not heights_hold(StateGame(chart), as_fractions(heights)):
        return False
    return all([state in heights and heights[state] <= bound for state in _guarded_states(chart, guarded)])


def _searched(chart, bound):
    """Return the search for guards that answers a question."""
    _check_question(chart, bound)
    if len(chart) > MOST_GUARD_ROADS:
        raise TooLarge("more roads than the limit allows")
    return GuardSearch(chart, bound)


def guard(chart, bound):
    """Return the Guards with which a bound is sure."""
    search = _searched(chart, bound)
    guarded = search.cheapest()
    heights = search.least_from(_guarded_states(chart, guarded))
    return Guards(guarded, heights, search.tree_for(_price_of(chart, guarded), (), ()))


def guard_price(chart, bound):
    """Return what the cheapest guards cost together with which a bound is sure."""
    return _price_of(chart, _searched(chart, bound).cheapest())
