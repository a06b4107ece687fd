"""States of a traveller, the roads that it can take, and their results."""

from shutroads.errors import BadRoad, BadState
from shutroads.maps import are_roads, check_map, is_road, is_within, is_world, other_end, roads_at, small_sets


def is_state(chart, state):
    """Return whether a value is a state of a map."""
    if not isinstance(state, tuple) or len(state) != 3:
        return False
    place, clear, shut = state
    if not is_within(place, 0, chart.places - 1) or not are_roads(chart, clear) or not is_world(chart, shut):
        return False
    if any([road in shut for road in clear]):
        return False
    return all([road in clear or road in shut for road in roads_at(chart, place)])


def check_state(chart, state):
    """Raise BadState if an argument is no state of a map."""
    if not is_state(chart, state):
        raise BadState("not a state of the map")


def is_at_goal(chart, state):
    """Return whether a state is at the goal of a map."""
    return state[0] == chart.ends[1]


def _unknown_at(chart, place, clear, shut):
    """Return the list of the roads at a place of which it is not known whether they are shut, ascending."""
    return [road for road in roads_at(chart, place) if road not in clear and road not in shut]


def _state_at(place, clear, shut, unknown, closed):
    """Return the state of one who comes to a place knowing this, and sees which of the unknown roads are closed."""
    passable = [road for road in unknown if road not in closed]
    return place, tuple(sorted([*clear, *passable])), tuple(sorted([*shut, *closed]))


def _arrivals(chart, place, clear, shut):
    """Return the list of the states in which the traveller can be at a place to which it came knowing this."""
    unknown = _unknown_at(chart, place, clear, shut)
    return [_state_at(place, clear, shut, unknown, closed)
            for closed in small_sets(unknown, chart.most - len(shut))]


def _arrival_in(chart, world, place, clear, shut):
    """Return the state in which the traveller is at a place in a world, to which it came knowing this."""
    unknown = _unknown_at(chart, place, clear, shut)
    return _state_at(place, clear, shut, unknown, [road for road in unknown if road in world])


def first_states(chart):
    """Return the list of the states at the beginning, in order."""
    check_map(chart)
    return _arrivals(chart, chart.ends[0], (), ())


def open_roads(chart, state):
    """Return the list of the open roads at the place of a state that is known to be right, ascending."""
    place, clear, _ = state
    return [road for road in roads_at(chart, place) if road in clear]


def ways(chart, state):
    """Return the list of the open roads at the place of a state, ascending."""
    check_map(chart)
    check_state(chart, state)
    return open_roads(chart, state)


def is_way(chart, state, road):
    """Return whether a value is an open road at the place of a state."""
    # Only an integer is compared with the ways: True equals 1.
    return is_road(chart, road) and road in open_roads(chart, state)


def states_after(chart, state, road):
    """Return the list of the states that can follow when a road at the place is used, in order."""
    place, clear, shut = state
    return _arrivals(chart, other_end(chart, road, place), clear, shut)


def results(chart, state, road):
    """Return the list of the states that can follow when a road is taken, in order."""
    check_map(chart)
    check_state(chart, state)
    if not is_way(chart, state, road):
        raise BadRoad("not an open road at the place")
    return states_after(chart, state, road)


def first_state_in(chart, world):
    """Return that of the first states which comes about in a world."""
    return _arrival_in(chart, world, chart.ends[0], (), ())


def state_after_in(chart, world, state, road):
    """Return the state that follows in a world when an open road at the place is taken."""
    place, clear, shut = state
    return _arrival_in(chart, world, other_end(chart, road, place), clear, shut)
