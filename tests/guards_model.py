"""A slow and simple model of guards, and of what their heights and trees must be, made without the package."""

from functools import cache
from math import inf

import model
import tables_model


def cost_of(plan, roads):
    return sum(plan.roads[road][2] for road in roads)


def all_sets(plan):
    return model.subsets(range(len(plan.roads)))


@cache
def first_with(plan, guarded):
    """Return the first states with some guarded roads, from all worlds in which none of these is shut."""
    found = {}
    for world in model.world_list(plan):
        if not set(world) & set(guarded):
            state = model.looked_around(plan, plan.ends[0], guarded, (), world)
            found[state[2]] = state
    return [found[shut] for shut in model.in_order(found)]


@cache
def lengths(plan):
    """Return the least sure lengths of all states that can come about with any guarded roads."""
    return tables_model.sure_costs(plan, [state for some in all_sets(plan) for state in first_with(plan, some)])


def is_sure(plan, bound, guarded):
    return all(lengths(plan)[state] <= bound for state in first_with(plan, guarded))


def is_too_short(plan, bound):
    length = model.shortest(plan, ())
    return length is None or length > bound


def price(plan, bound):
    """Return the price of the cheapest guards, by trying all sets of roads."""
    return min(cost_of(plan, some) for some in all_sets(plan) if is_sure(plan, bound, some))


def choices_at(plan):
    return lambda state: tables_model.road_choices(plan, state)


def at_goal(plan):
    return lambda state: tables_model.at_goal(plan, state)


def is_slow(plan, bound, state, reason, world_of, outside):
    rest = tuple(road for road in range(len(plan.roads)) if road not in outside)
    if state not in first_with(plan, rest):
        return False
    if isinstance(reason, dict):
        return (reason.get(state, -inf) > bound
                and tables_model.levels_are_right(reason, choices_at(plan), at_goal(plan)))
    world = world_of(reason)
    return world is not None and tables_model.parted_is_shown(plan, state, world)


def is_tree(plan, bound, least, tree, world_of, inside=(), outside=()):
    """[7]: whether something is a tree for the roads that are in and out; world_of gives the world of a Parted."""
    match tree:
        case ("price", None, None):
            return cost_of(plan, inside) >= least
        case ("slow", state, reason):
            return is_slow(plan, bound, state, reason, world_of, outside)
        case (int(road), one, two) if 0 <= road < len(plan.roads) and road not in inside + outside:
            return (is_tree(plan, bound, least, one, world_of, inside + (road,), outside)
                    and is_tree(plan, bound, least, two, world_of, inside, outside + (road,)))
    return False


def is_shown(plan, bound, guarded, heights, tree, world_of):
    """[7]: whether guarded roads, heights and a tree are as they must be."""
    if guarded not in all_sets(plan):
        return False
    if any(heights.get(state, inf) > bound for state in first_with(plan, guarded)):
        return False
    return (tables_model.heights_are_right(heights, choices_at(plan), at_goal(plan))
            and is_tree(plan, bound, cost_of(plan, guarded), tree, world_of))


def leaves(tree, inside=(), outside=(), path=()):
    """Yield the leaves of a tree with the roads that are in and out, and with the numbers that lead there."""
    head, one, two = tree
    if isinstance(head, int):
        yield from leaves(one, inside + (head,), outside, path + (1,))
        yield from leaves(two, inside, outside + (head,), path + (2,))
    else:
        yield tree, inside, outside, path


def nodes(tree, path=()):
    """Yield all inner trees of a tree, itself included, with the numbers that lead there."""
    yield tree, path
    if isinstance(tree[0], int):
        yield from nodes(tree[1], path + (1,))
        yield from nodes(tree[2], path + (2,))


def replaced(tree, path, other):
    """Return a tree with another one at the end of a path."""
    if not path:
        return other
    parts = list(tree)
    parts[path[0]] = replaced(parts[path[0]], path[1:], other)
    return tuple(parts)
