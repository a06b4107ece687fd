"""A slow and simple model of least costs, and of what the tables must be, made without the package."""

from fractions import Fraction
from functools import cache
from itertools import chain
from math import inf

import model
from model import Plan

way_list = cache(model.way_list)
result_list = cache(model.result_list)
arrivals = cache(model.arrivals)
shortest = cache(model.shortest)


def small_plan(source, most_places=5, most_roads=6, most_shut=2):
    places = source.randint(2, most_places)
    triples = {}
    for _ in range(source.randint(1, most_roads)):
        first, second = sorted(source.sample(range(places), 2))
        triples[first, second, source.randint(1, 9)] = True
    return Plan(places, tuple(sorted(triples)), tuple(source.sample(range(places), 2)), source.randint(0, most_shut))


def all_states(plan):
    """Return all states of a map, also those that cannot come about."""
    worlds = model.world_list(plan)
    return [
        (place, clear, shut) for shut in worlds
        for clear in model.subsets([road for road in range(len(plan.roads)) if road not in shut])
        for place in range(plan.places) if set(model.touching(plan, place)) <= {*clear, *shut}
    ]


def walked_state(plan, source):
    """Return a state after some roads from a first state, none of them from the goal."""
    state = source.choice(arrivals(plan, plan.ends[0], (), ()))
    for _ in range(source.randint(0, 4)):
        roads = way_list(plan, state)
        if at_goal(plan, state) or not roads:
            break
        state = source.choice(result_list(plan, state, source.choice(roads)))
    return state


def at_goal(plan, state):
    return state[0] == plan.ends[1]


def is_cut(plan, place, world):
    return not any(True for _ in model.way_lengths(plan, place, world))


def is_whole(plan):
    return not any(is_cut(plan, plan.ends[0], world) for world in model.world_list(plan))


def parting_worlds(plan, state):
    return [world for world in model.possible(plan, state) if is_cut(plan, state[0], world)]


def road_choices(plan, state):
    """Return the cost and the results of each road that can be taken, none at the goal."""
    if at_goal(plan, state):
        return []
    return [(plan.roads[road][2], result_list(plan, state, road)) for road in way_list(plan, state)]


def come_about(begins, choices_at, limit=inf):
    """Return a dict from all that can come about to the choices there, no more of it than just over the limit."""
    found = {}
    waiting = list(begins)
    while waiting and len(found) <= limit:
        entry = waiting.pop()
        if entry not in found:
            found[entry] = choices_at(entry)
            for _, results in found[entry]:
                waiting.extend(results)
    return found


def rounds(found, end):
    """Return a dict from all entries to the least sure cost, round by round over all of them."""
    now = {entry: inf for entry in found}
    while True:
        after = {
            entry: end(entry) if end(entry) is not None else
            min((cost + max(now[result] for result in results) for cost, results in found[entry]), default=inf)
            for entry in found
        }
        if after == now:
            return now
        now = after


def sure_costs(plan, begins):
    found = come_about(begins, lambda state: road_choices(plan, state))
    return rounds(found, lambda state: 0 if at_goal(plan, state) else None)


# The price of not knowing.

def worst_need(plan, state):
    """Return the least length of a way in that possible world in which it is least, for a state at the goal."""
    return min(shortest(plan, world) for world in model.possible(plan, state))


def regrets(plan, times):
    found = come_about(model.first(plan), lambda state: road_choices(plan, state))
    needs = {state: worst_need(plan, state) for state in found if at_goal(plan, state)}
    costs = rounds(found, lambda state: -needs[state] * times if state in needs else None)
    return costs, max(costs[state] for state in model.first(plan)), needs


def surplus_of(plan):
    return regrets(plan, 1)[1]


def ratio_of(plan):
    """Return the least ratio of what can be walked and what is needed that is enough, by halving all such ratios."""
    _, amount, needs = regrets(plan, 1)
    some = sorted(set(needs.values()))
    ratios = sorted({Fraction(walked, need) for need in some for walked in range(need, need * (amount + 1) + 1)})
    low, high = 0, len(ratios) - 1
    assert regrets(plan, ratios[high])[1] <= 0
    while low < high:
        middle = (low + high) // 2
        if regrets(plan, ratios[middle])[1] <= 0:
            high = middle
        else:
            low = middle + 1
    return ratios[low].numerator, ratios[low].denominator


# Calls and mending.

def move_list(plan, position, tools):
    """Return each move with its cost and its results."""
    state, mended = position
    place, clear, shut = state
    found = []
    if at_goal(plan, state):
        return found
    worlds = model.possible(plan, state)
    here = model.touching(plan, place)
    for road in here:
        if road not in shut or road in mended:
            after = arrivals(plan, model.beyond(plan, road, place), clear, shut)
            found.append((("road", road), plan.roads[road][2], [(end, mended) for end in after]))
    for road in range(len(plan.roads)):
        if tools[0] is not None and road not in clear + shut:
            told = [((place, tuple(sorted({*clear, road})), shut), mended)]
            if any(road in world for world in worlds):
                told.append(((place, clear, tuple(sorted({*shut, road}))), mended))
            found.append((("call", road), tools[0], told))
    for road in here:
        if tools[1] is not None and road in shut and road not in mended:
            found.append((("mend", road), tools[1], [(state, tuple(sorted({*mended, road})))]))
    return found


def move_choices(plan, position, tools):
    return [(cost, results) for _, cost, results in move_list(plan, position, tools)]


def positions_from(plan, position, tools, limit):
    return come_about([position], lambda entry: move_choices(plan, entry, tools), limit)


def help_costs(plan, position, tools, limit=600):
    """Return a dict from all positions that can come about to their least costs, None if these are too many."""
    found = positions_from(plan, position, tools, limit)
    if len(found) > limit:
        return None
    return rounds(found, lambda entry: 0 if at_goal(plan, entry[0]) else None)


# What the words of the points say of tables.

def heights_are_right(heights, choices_at, goal):
    """[4] and [6]: each height is surely enough."""
    for entry, height in heights.items():
        if height < 0:
            return False
        if not goal(entry) and not any(
            all(result in heights and heights[result] + price <= height for result in results)
            for price, results in choices_at(entry)
        ):
            return False
    return True


def levels_are_right(levels, choices_at, goal):
    """[4] and [6]: nothing less than a level is surely enough."""
    for entry, level in levels.items():
        if level > 0:
            if goal(entry):
                return False
            for price, results in choices_at(entry):
                if price + max([0] + [levels[result] for result in results if result in levels]) < level:
                    return False
    return True


def cost_is_shown(begin, cost, heights, levels, choices_at, goal):
    """[4] and [6]: heights and levels of integers."""
    if begin not in heights or heights[begin] > cost or (cost > 0 and levels.get(begin, -1) < cost):
        return False
    return heights_are_right(heights, choices_at, goal) and levels_are_right(levels, choices_at, goal)


def sure_is_shown(plan, state, length, heights, levels):
    return cost_is_shown(state, length, heights, levels, lambda entry: road_choices(plan, entry),
                         lambda entry: at_goal(plan, entry))


def help_is_shown(plan, position, tools, cost, heights, levels):
    return cost_is_shown(position, cost, heights, levels, lambda entry: move_choices(plan, entry, tools),
                         lambda entry: at_goal(plan, entry[0]))


def parted_is_shown(plan, state, world):
    return world in parting_worlds(plan, state)


def lost_is_shown(plan, position, tools, spots):
    return position in spots and not any(
        at_goal(plan, spot[0]) or
        any(not set(results) & set(spots) for _, results in move_choices(plan, spot, tools))
        for spot in spots
    )


def regret_is_shown(plan, most, times, heights, levels):
    """[5]: heights and levels of integers or Fractions; most is the amount, or 0 for a ratio."""
    first = model.first(plan)
    if any(state not in heights or heights[state] > most for state in first):
        return False
    if not any(state in levels and levels[state] >= most for state in first):
        return False
    for state in chain(heights, levels):
        if at_goal(plan, state):
            end = -shortest(plan, state[2]) * times
            if heights.get(state, end) < end or levels.get(state, end) > end:
                return False
    for state, height in heights.items():
        if not at_goal(plan, state) and not any(
            all(result in heights and heights[result] + length <= height for result in results)
            for length, results in road_choices(plan, state)
        ):
            return False
    return all(
        at_goal(plan, state) or
        all(any(result in levels and levels[result] + length >= level for result in results)
            for length, results in road_choices(plan, state))
        for state, level in levels.items()
    )


# Tables with something changed.

def changed_tables(table, others, source, many=5):
    """Yield tables like one of integers: with a value changed, with an entry left out, with one more, and none."""
    yield {}
    for entry in source.sample(sorted(table), min(many, len(table))):
        for change in (-7, -2, -1, 1, 2, 7):
            yield {**table, entry: table[entry] + change}
        for value in (-1, 0, 1):
            yield {**table, entry: value}
        yield {known: table[known] for known in table if known != entry}
    more = [entry for entry in others if entry not in table]
    for entry in source.sample(more, min(many, len(more))):
        for value in (-30, -1, 0, 1, 2, 5, 100):
            yield {**table, entry: value}


def in_another_order(table, source):
    return {entry: table[entry] for entry in source.sample(list(table), len(table))}
