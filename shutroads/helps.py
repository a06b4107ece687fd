"""Calls and mending: the least cost that is surely enough to arrive, or positions that tell that there is none."""

from shutroads.errors import BadPosition, BadTools
from shutroads.maps import are_roads, check_map, is_within, roads_at
from shutroads.tables import come_about, least_costs, levels_from, shows_cost
from shutroads.walks import check_state, is_at_goal, is_state, states_after

LEAST_PRICE = 1
GREATEST_PRICE = 9


class Help:
    """The least cost that is surely enough from a position, with heights and levels that show it."""

    def __init__(self, cost, heights, levels):
        self.cost = cost
        self.heights = {position: heights[position] for position in heights}
        self.levels = {position: levels[position] for position in levels}

    def __eq__(self, other):
        return (isinstance(other, Help) and self.cost == other.cost and self.heights == other.heights
                and self.levels == other.levels)

    def shows(self, chart, position, tools):
        """Return whether the heights and levels show that the cost is the least one from a position."""
        _check_all(chart, position, tools)
        return shows_cost(PositionGame(chart, tools), position, self.cost, self.heights, self.levels)


class Lost:
    """Positions, none of them at the goal, at which each move may lead to another one of them."""

    def __init__(self, spots):
        self.spots = list(spots)

    def __eq__(self, other):
        return isinstance(other, Lost) and self.spots == other.spots

    def __iter__(self):
        return iter(self.spots)

    def shows(self, chart, position, tools):
        """Return whether the positions show that no cost is surely enough from a position."""
        _check_all(chart, position, tools)
        game = PositionGame(chart, tools)
        if not all([game.is_entry(spot) for spot in self.spots]):
            return False
        spots = {spot: True for spot in self.spots}
        return position in spots and all([_is_lost(game, spots, spot) for spot in spots])


class PositionGame:
    """The positions of a map as entries of tables: what moves cost, and that nothing is left to pay at the goal."""

    def __init__(self, chart, tools):
        self.chart = chart
        self.tools = tools
        self.scale = 1

    def is_entry(self, value):
        """Return whether a value is a position."""
        return _is_position(self.chart, value)

    def end(self, position):
        """Return 0 for a position at the goal, None for any other one."""
        return 0 if is_at_goal(self.chart, position[0]) else None

    def choices(self, position):
        """Return the list of the cost and the results of each move that is possible."""
        return [(_price(self.chart, move, self.tools), _positions_after(self.chart, position, move))
                for move in _possible_moves(self.chart, position, self.tools)]


def _is_position(chart, value):
    """Return whether a value is a position of a map."""
    if not isinstance(value, tuple) or len(value) != 2:
        return False
    state, mended = value
    return is_state(chart, state) and are_roads(chart, mended) and all([road in state[2] for road in mended])


def _are_tools(value):
    """Return whether a value is a pair of two prices, each of them perhaps None."""
    if not isinstance(value, tuple) or len(value) != 2:
        return False
    return all([price is None or is_within(price, LEAST_PRICE, GREATEST_PRICE) for price in value])


def _check_tools(tools):
    """Raise BadTools if an argument is no pair of tools."""
    if not _are_tools(tools):
        raise BadTools("not a pair of tools")


def _check_all(chart, position, tools):
    """Raise BadMap, BadPosition or BadTools if an argument is none, the first one that is not."""
    check_map(chart)
    if not _is_position(chart, position):
        raise BadPosition("not a position of the map")
    _check_tools(tools)


def _with_road(some, road):
    """Return an ascending tuple of roads with one road more."""
    return tuple(sorted([*some, road]))


def _possible_moves(chart, position, tools):
    """Return the list of all moves that are possible, in order."""
    (place, clear, shut), mended = position
    if is_at_goal(chart, position[0]):
        return []
    call, mending = tools
    here = roads_at(chart, place)
    found = [("road", road) for road in here if road in clear or road in mended]
    if call is not None:
        found.extend([("call", road) for road in range(len(chart)) if road not in clear and road not in shut])
    if mending is not None:
        found.extend([("mend", road) for road in here if road in shut and road not in mended])
    return found


def _price(chart, move, tools):
    """Return what a move costs."""
    word, road = move
    if word == "road":
        return chart.roads[road][2]
    call, mending = tools
    return call if word == "call" else mending


def _positions_after(chart, position, move):
    """Return the list of the results of a move, in order."""
    word, road = move
    state, mended = position
    if word == "road":
        return [(after, mended) for after in states_after(chart, state, road)]
    if word == "mend":
        return [(state, _with_road(mended, road))]
    place, clear, shut = state
    found = [((place, _with_road(clear, road), shut), mended)]
    if len(shut) < chart.most:
        found.append(((place, clear, _with_road(shut, road)), mended))
    return found


def _is_lost(game, spots, spot):
    """Return whether a position is not at the goal, and each move there has a result among some positions."""
    if game.end(spot) is not None:
        return False
    return all([any([result in spots for result in results]) for _, results in game.choices(spot)])


def moves(chart, position, tools):
    """Return the list of all moves that are possible at a position, in order."""
    _check_all(chart, position, tools)
    return _possible_moves(chart, position, tools)


def help_for(chart, position, tools):
    """Return a Help for a position, or a Lost if no cost is surely enough."""
    _check_all(chart, position, tools)
    game = PositionGame(chart, tools)
    found = come_about(game, [position])
    least = least_costs(game, found)
    if position not in least:
        return Lost([entry for entry in found if entry not in least])
    # A move can be taken back, and nothing is forgotten; so if some cost is enough here, one is after each move.
    return Help(least[position], least, levels_from(least))


def help_cost(chart, position, tools):
    """Return the least cost that is surely enough from a position, None if there is none."""
    found = help_for(chart, position, tools)
    return found.cost if isinstance(found, Help) else None


def tool_costs(chart, state, tools):
    """Return the list of the least costs with neither tool, with either of them alone, and with both."""
    check_map(chart)
    check_state(chart, state)
    _check_tools(tools)
    call, mending = tools
    return [help_cost(chart, (state, ()), some) for some in ((None, None), (call, None), (None, mending), tools)]
