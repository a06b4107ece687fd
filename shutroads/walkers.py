"""Walkers: fixed rules which road to take, how far they walk, and which of them walk least at worst."""

from shutroads.errors import BadRule
from shutroads.maps import check_map, check_world, least_sums, other_end, road_lengths, worlds
from shutroads.walks import first_state_in, is_at_goal, open_roads, state_after_in

RULES = ("near", "few", "known")


def _best_road(chart, state, shut, prices):
    """Return the open road at the place with the least rest, of several the least road, None if none has a rest.

    Rests are sums of prices of the road and of a way from its other end to the goal without shut roads.
    """
    sums = least_sums(chart, chart.ends[1], shut, prices)
    rests = []
    for road in open_roads(chart, state):
        behind = sums[other_end(chart, road, state[0])]
        if behind is not None:
            rests.append((prices[road] + behind, road))
    return min(rests)[1] if rests else None


def _next_road(chart, state, rule):
    """Return the road that a walker takes, None if it stays."""
    if is_at_goal(chart, state):
        return None
    _, clear, shut = state
    if rule == "few":
        return _best_road(chart, state, shut, [1] * len(chart))
    lengths = road_lengths(chart)
    best = None
    if rule == "known":
        best = _best_road(chart, state, [road for road in range(len(chart)) if road not in clear], lengths)
    return _best_road(chart, state, shut, lengths) if best is None else best


def _whole_walk(chart, world, rule):
    """Return the list of the roads that a walker takes in a world, and the state in which it stays."""
    state = first_state_in(chart, world)
    taken = []
    road = _next_road(chart, state, rule)
    # Each road leads nearer to the goal, as far as is known, and only a new shut road makes the rest greater; so a
    # walker stays at last.
    while road is not None:
        taken.append(road)
        state = state_after_in(chart, world, state, road)
        road = _next_road(chart, state, rule)
    return taken, state


def _check_rule(rule):
    """Raise BadRule if an argument is no rule."""
    if not isinstance(rule, str) or rule not in RULES:
        raise BadRule("not a rule of a walker")


def _check_walk(chart, world, rule):
    """Raise BadMap, BadWorld or BadRule if an argument is none, the first one that is not."""
    check_map(chart)
    check_world(chart, world)
    _check_rule(rule)


def walk(chart, world, rule):
    """Return the list of the roads that a walker takes in a world, until it stays."""
    _check_walk(chart, world, rule)
    taken, _ = _whole_walk(chart, world, rule)
    return taken


def walked(chart, world, rule):
    """Return the length that a walker walks in a world, None if it does not stay at the goal."""
    _check_walk(chart, world, rule)
    taken, state = _whole_walk(chart, world, rule)
    lengths = road_lengths(chart)
    return sum([lengths[road] for road in taken]) if is_at_goal(chart, state) else None


def worst(chart, rule):
    """Return the greatest length that a walker walks, and the first world for it, None if it arrives in no world."""
    check_map(chart)
    _check_rule(rule)
    found = None
    for world in worlds(chart):
        length = walked(chart, world, rule)
        if length is not None and (found is None or length > found[0]):
            found = (length, world)
    return found


def best_rules(chart):
    """Return the list of the rules with which the greatest length is least, in order, empty if none arrives."""
    check_map(chart)
    found = []
    for rule in RULES:
        at_worst = worst(chart, rule)
        if at_worst is not None:
            found.append((at_worst[0], rule))
    least = min([length for length, _ in found], default=None)
    return [rule for length, rule in found if length == least]
