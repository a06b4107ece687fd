"""The price of not knowing: how much longer a way must be, at worst, than that of one who knows what is shut."""

from shutroads.errors import CutOff
from shutroads.maps import check_map, open_length, worlds
from shutroads.quotients import is_at_most, is_fraction, quotient
from shutroads.sure import StateGame
from shutroads.tables import NOTHING, as_fractions, come_about, heights_hold, least_costs, levels_hold
from shutroads.walks import first_states, is_at_goal

EVEN = (1, 1)


class Surplus:
    """The least amount by which a walk is surely at most longer, with heights and levels that show it."""

    def __init__(self, amount, heights, levels):
        self.amount = amount
        self.heights = {state: heights[state] for state in heights}
        self.levels = {state: levels[state] for state in levels}

    def __eq__(self, other):
        return (isinstance(other, Surplus) and self.amount == other.amount and self.heights == other.heights
                and self.levels == other.levels)

    def shows(self, chart):
        """Return whether the heights and levels show that the amount is the least one."""
        game = RegretGame(chart, _needs(chart), EVEN)
        return _shows_regret(game, (self.amount, 1), as_fractions(self.heights), as_fractions(self.levels))


class Ratio:
    """The least ratio by which a walk is surely at most longer, with heights and levels that show it."""

    def __init__(self, ratio, heights, levels):
        self.ratio = ratio
        self.heights = {state: heights[state] for state in heights}
        self.levels = {state: levels[state] for state in levels}

    def __eq__(self, other):
        return (isinstance(other, Ratio) and self.ratio == other.ratio and self.heights == other.heights
                and self.levels == other.levels)

    def shows(self, chart):
        """Return whether the heights and levels show that the ratio is the least one."""
        needs = _needs(chart)
        if not is_fraction(self.ratio):
            return False
        return _shows_regret(RegretGame(chart, needs, self.ratio), NOTHING, self.heights, self.levels)


class RegretGame(StateGame):
    """The states of a whole map as entries of tables that end with minus the need, times a ratio, at the goal."""

    def __init__(self, chart, needs, ratio):
        super().__init__(chart)
        self.needs = needs
        self.times, self.scale = ratio

    def end(self, state):
        """Return minus the need of a state at the goal, in parts of 1 / scale, None for any other one."""
        return -self.needs[state[2]] * self.times if is_at_goal(self.chart, state) else None


def _needs(chart):
    """Return a dict from the worlds of a map to the least lengths of ways in them; the map must be whole."""
    check_map(chart)
    needs = {world: open_length(chart, world) for world in worlds(chart)}
    if any([needs[world] is None for world in needs]):
        raise CutOff("a world leaves no way")
    return needs


def _shows_regret(game, most, heights, levels):
    """Return whether tables of fractions show that a fraction is the least that is surely enough."""
    if not is_fraction(most) or not heights_hold(game, heights) or not levels_hold(game, levels, None):
        return False
    begins = first_states(game.chart)
    if not all([state in heights and is_at_most(heights[state], most) for state in begins]):
        return False
    return any([state in levels and is_at_most(most, levels[state]) for state in begins])


def _worst(chart, least):
    """Return the greatest number that a table has for the first states."""
    return max([least[state] for state in first_states(chart)])


def _best_choice(game, found, least, state):
    """Return the first choice in a state with which the least that is surely enough is enough."""
    return [
        (cost, results) for cost, results in found[state]
        if max([least[result] for result in results]) + cost * game.scale <= least[state]
    ][0]


def _worst_quotient(game, found, least):
    """Return the ratio that is surely enough for one who always takes the best choice of a table."""
    walked = {state: 0 for state in first_states(game.chart)}
    worst = NOTHING
    # A best choice leads to lesser numbers only, so all ways to a state are known when its turn comes.
    for state in reversed(list(least)):
        if state not in walked:
            continue
        if is_at_goal(game.chart, state):
            here = quotient(walked[state], game.needs[state[2]])
            if not is_at_most(here, worst):
                worst = here
        else:
            cost, results = _best_choice(game, found, least, state)
            for result in results:
                walked[result] = max(walked.get(result, 0), walked[state] + cost)
    return worst


def surplus(chart):
    """Return the Surplus of a whole map."""
    game = RegretGame(chart, _needs(chart), EVEN)
    least = least_costs(game, come_about(game, first_states(chart)))
    return Surplus(_worst(chart, least), least, least)


def least_surplus(chart):
    """Return the amount of the Surplus of a whole map."""
    return surplus(chart).amount


def ratio(chart):
    """Return the Ratio of a whole map."""
    found_ratio = EVEN
    game = RegretGame(chart, _needs(chart), found_ratio)
    found = come_about(game, first_states(chart))
    least = least_costs(game, found)
    # No ratio is below 1. One that is enough for some fixed choices is least exactly if no choices leave a rest below
    # 0; otherwise, those that do are enough with a lesser ratio.
    while _worst(chart, least) != 0:
        found_ratio = _worst_quotient(game, found, least)
        game = RegretGame(chart, game.needs, found_ratio)
        least = least_costs(game, found)
    table = {state: quotient(least[state], game.scale) for state in least}
    return Ratio(found_ratio, table, table)


def least_ratio(chart):
    """Return the ratio of the Ratio of a whole map."""
    return ratio(chart).ratio
