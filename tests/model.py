"""A slow and simple model of maps and walks, made without the package, and the maps for the tests."""

from collections import namedtuple
from random import Random

Plan = namedtuple("Plan", "places roads ends most")

FORK = Plan(3, ((0, 1, 1), (0, 2, 5), (1, 2, 1)), (0, 2), 1)
BY_HAND = [
    FORK,
    FORK._replace(most=2),
    FORK._replace(ends=(2, 0), most=3),
    # One road, and more that may be shut than there are roads.
    Plan(2, ((0, 1, 1),), (0, 1), 0),
    Plan(2, ((0, 1, 9),), (1, 0), 1),
    Plan(2, ((0, 1, 9),), (1, 0), 3),
    # Parallel roads.
    Plan(2, tuple((0, 1, length) for length in range(1, 9)), (0, 1), 3),
    Plan(3, ((0, 1, 1), (0, 1, 2), (1, 2, 3), (1, 2, 4)), (0, 2), 2),
    # A place without a road, a goal without a road, a beginning without a road.
    Plan(4, ((0, 1, 2), (1, 2, 2)), (0, 2), 1),
    Plan(4, ((0, 1, 2), (1, 2, 2)), (0, 3), 1),
    Plan(4, ((0, 1, 2), (1, 2, 2)), (3, 0), 2),
    # Roads that touch neither end, and one part of the map that cannot be reached.
    Plan(6, ((0, 1, 1), (1, 2, 1), (2, 3, 1), (3, 4, 1), (4, 5, 1)), (0, 5), 3),
    Plan(6, ((0, 1, 1), (2, 3, 1), (2, 3, 4), (3, 4, 1)), (0, 1), 2),
    # Eight roads and six places.
    Plan(6, ((0, 1, 9), (0, 2, 1), (1, 3, 1), (2, 3, 7), (2, 4, 2), (3, 5, 3), (3, 5, 9), (4, 5, 8)), (0, 5), 3),
]


def random_plan(source):
    places = source.randint(2, 6)
    triples = {}
    for _ in range(source.randint(1, 8)):
        first, second = sorted(source.sample(range(places), 2))
        triples[first, second, source.randint(1, 9)] = True
    return Plan(places, tuple(sorted(triples)), tuple(source.sample(range(places), 2)), source.randint(0, 3))


def all_plans():
    source = Random(20)
    return BY_HAND + [random_plan(source) for _ in range(120)]


def in_order(sets):
    return sorted(sets, key=lambda some: (len(some), some))


def subsets(items):
    found = [()]
    for item in items:
        found += [some + (item,) for some in found]
    return found


def world_list(plan):
    return in_order([some for some in subsets(range(len(plan.roads))) if len(some) <= plan.most])


def touching(plan, place):
    return [road for road, triple in enumerate(plan.roads) if place in triple[:2]]


def beyond(plan, road, place):
    return sum(plan.roads[road][:2]) - place


def way_lengths(plan, place, world, been=()):
    """Yield the lengths of all ways to the goal that are at no place twice."""
    if place == plan.ends[1]:
        yield 0
        return
    for road in touching(plan, place):
        end = beyond(plan, road, place)
        if road not in world and end not in been:
            for rest in way_lengths(plan, end, world, (*been, place)):
                yield plan.roads[road][2] + rest


def shortest(plan, world):
    return min(way_lengths(plan, plan.ends[0], world), default=None)


def possible(plan, state):
    _, clear, shut = state
    return [world for world in world_list(plan) if set(shut) <= set(world) and not set(clear) & set(world)]


def looked_around(plan, place, clear, shut, world):
    """Return the state of one who comes to a place in a world, knowing this."""
    here = touching(plan, place)
    seen_shut = set(shut) | {road for road in here if road in world}
    seen_clear = set(clear) | {road for road in here if road not in world}
    return (place, tuple(sorted(seen_clear)), tuple(sorted(seen_shut)))


def arrivals(plan, place, clear, shut):
    """Return what can be found at a place, from all worlds that are possible, ordered by the roads found shut."""
    found = {}
    for world in possible(plan, (place, clear, shut)):
        state = looked_around(plan, place, clear, shut, world)
        found[tuple(sorted(set(state[2]) - set(shut)))] = state
    return [found[some] for some in in_order(found)]


def first(plan):
    return arrivals(plan, plan.ends[0], (), ())


def way_list(plan, state):
    return [road for road in touching(plan, state[0]) if road not in state[2]]


def result_list(plan, state, road):
    return arrivals(plan, beyond(plan, road, state[0]), state[1], state[2])


# None of these is an integer, a tuple, or a map.
OTHER_KINDS = (
    None, True, False, "", "0", "PLACES", b"", b"\x00", [], [0], [0, 1], {}, {0: 1}, set(), {0}, frozenset(), range(2),
    object(), len, int, iter(()), NotImplemented, ...,
)
