"""A slow and simple model of walkers and of sessions, made without the package."""

import model

RULES = ["near", "few", "known"]


def ways(plan, place, been=()):
    """Yield the roads of all ways to the goal that are at no place twice."""
    if place == plan.ends[1]:
        yield ()
        return
    for road in model.touching(plan, place):
        end = model.beyond(plan, road, place)
        if end not in been and end != place:
            for rest in ways(plan, end, (*been, place)):
                yield (road, *rest)


def length_of(plan, roads):
    return sum(plan.roads[road][2] for road in roads)


def rest_of(plan, state, road, rule):
    """Return the rest of a road by a rule, None if it has none."""
    place, clear, shut = state
    found = []
    for way in ways(plan, model.beyond(plan, road, place)):
        if rule == "known":
            usable = set(way) <= set(clear)
        else:
            usable = not set(way) & set(shut)
        if usable:
            found.append(1 + len(way) if rule == "few" else length_of(plan, (road, *way)))
    return min(found, default=None)


def choice(plan, state, rule):
    """Return the road that a walker takes, None if it stays."""
    if state[0] == plan.ends[1]:
        return None
    rests = {road: rest_of(plan, state, road, rule) for road in model.way_list(plan, state)}
    rests = {road: rest for road, rest in rests.items() if rest is not None}
    if not rests:
        return choice(plan, state, "near") if rule == "known" else None
    return sorted(rests, key=lambda road: (rests[road], road))[0]


def after(plan, world, state, road):
    return model.looked_around(plan, model.beyond(plan, road, state[0]), state[1], state[2], world)


def begin(plan, world):
    return model.looked_around(plan, plan.ends[0], (), (), world)


def walk(plan, world, rule):
    """Return the roads that a walker takes, and all states in which it is."""
    states = [begin(plan, world)]
    taken = []
    while (road := choice(plan, states[-1], rule)) is not None:
        taken.append(road)
        states.append(after(plan, world, states[-1], road))
        assert len(taken) < 1000
    return taken, states


def walked(plan, world, rule):
    taken, states = walk(plan, world, rule)
    return length_of(plan, taken) if states[-1][0] == plan.ends[1] else None


def worst(plan, rule):
    found = [(walked(plan, world, rule), world) for world in model.world_list(plan)]
    found = [(length, world) for length, world in found if length is not None]
    if not found:
        return None
    most = max(length for length, _ in found)
    return [pair for pair in found if pair[0] == most][0]


def best_rules(plan):
    lengths = {rule: worst(plan, rule) for rule in RULES}
    lengths = {rule: pair[0] for rule, pair in lengths.items() if pair is not None}
    return [rule for rule in RULES if rule in lengths and lengths[rule] == min(lengths.values())]
