"""The least length that is surely enough to arrive, with tables that show it, or a world that leaves no way."""

from shutroads.maps import check_map, is_world, leaves_no_way, worlds
from shutroads.tables import come_about, least_costs, levels_from, shows_cost
from shutroads.walks import check_state, is_at_goal, is_state, open_roads, states_after


class Sure:
    """The least length that is surely enough from a state, with heights and levels that show it."""

    def __init__(self, length, heights, levels):
        self.length = length
        self.heights = {state: heights[state] for state in heights}
        self.levels = {state: levels[state] for state in levels}

    def __eq__(self, other):
        return (isinstance(other, Sure) and self.length == other.length and self.heights == other.heights
                and self.levels == other.levels)

    def shows(self, chart, state):
        """Return whether the heights and levels show that the length is the least one from a state."""
        check_map(chart)
        check_state(chart, state)
        return shows_cost(StateGame(chart), state, self.length, self.heights, self.levels)


class Parted:
    """A world that is possible in a state and leaves no way from there to the goal."""

    def __init__(self, world):
        self.world = world

    def __eq__(self, other):
        return isinstance(other, Parted) and self.world == other.world

    def shows(self, chart, state):
        """Return whether the world is possible in a state, and leaves no way."""
        check_map(chart)
        check_state(chart, state)
        return is_world(chart, self.world) and _parts(chart, state, self.world)


class StateGame:
    """The states of a map as entries of tables: costs are lengths, and nothing is left to walk at the goal."""

    def __init__(self, chart):
        self.chart = chart
        self.scale = 1

    def is_entry(self, value):
        """Return whether a value is a state."""
        return is_state(self.chart, value)

    def end(self, state):
        """Return 0 for a state at the goal, None for any other one."""
        return 0 if is_at_goal(self.chart, state) else None

    def choices(self, state):
        """Return the list of the length and the results of each open road, none at the goal."""
        if is_at_goal(self.chart, state):
            return []
        return [(self.chart.roads[road][2], states_after(self.chart, state, road))
                for road in open_roads(self.chart, state)]


def _parts(chart, state, world):
    """Return whether a world is possible in a state and leaves no way from there to the goal."""
    place, clear, shut = state
    if any([road not in world for road in shut]) or any([road in world for road in clear]):
        return False
    return leaves_no_way(chart, place, world)


def parting_world(chart, state):
    """Return the first possible world that leaves no way, None if there is none."""
    for world in worlds(chart):
        if _parts(chart, state, world):
            return world
    return None


def sure(chart, state):
    """Return a Sure for a state, or a Parted if some possible world leaves no way to the goal."""
    check_map(chart)
    check_state(chart, state)
    world = parting_world(chart, state)
    if world is not None:
        return Parted(world)
    game = StateGame(chart)
    # Each world leaves a way, so the traveller arrives from each state, if need be by seeing all that it can reach.
    least = least_costs(game, come_about(game, [state]))
    return Sure(least[state], least, levels_from(least))


def sure_length(chart, state):
    """Return the least length that is surely enough from a state, None if some possible world leaves no way."""
    found = sure(chart, state)
    return found.length if isinstance(found, Sure) else None
