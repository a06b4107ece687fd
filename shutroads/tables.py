"""Tables over the entries of a game: what can come about, the least that is surely enough, and whether they show it.

A game is an object that tells of its entries (states, or positions): is_entry(value), whether a value is one at all;
choices(entry), the list of what can be done there, each a pair of a cost and the list of the results, empty at the
goal; and end(entry), what the entry ends with at the goal, None elsewhere. Ends count in parts of 1 / scale.
"""

from heapq import heappop, heappush

from shutroads.errors import TooLarge
from shutroads.quotients import add_whole, is_at_most, is_fraction

MOST_ENTRIES = 600
NOTHING = (0, 1)


def all_that_comes_about(game, begins, most):
    """Return a dict from all entries that can come about from some, these included, to the choices there.

    If there are more than most, the error is TooLarge; with None, there is no limit.
    """
    order = list({entry: True for entry in begins})
    seen = set(order)
    found = {}
    while len(found) < len(order):
        if most is not None and len(order) > most:
            raise TooLarge("more can come about than the limit allows")
        entry = order[len(found)]
        choices = game.choices(entry)
        found[entry] = choices
        for _, results in choices:
            for result in results:
                if result not in seen:
                    seen.add(result)
                    order.append(result)
    return found


def come_about(game, begins):
    """Return the same, but no more than the limit of most functions."""
    return all_that_comes_about(game, begins, MOST_ENTRIES)


def _uses(found):
    """Return the list of all choices, each its entry, cost and results, and a dict from results to their numbers."""
    choices = [(entry, cost, results) for entry in found for cost, results in found[entry]]
    users = {}
    for number, (_, _, results) in enumerate(choices):
        for result in results:
            users.setdefault(result, []).append(number)
    return choices, users


def least_costs(game, found):
    """Return a dict from entries to the least that is surely enough, in parts of 1 / scale, ascending.

    Entries from which nothing is surely enough are not in it.
    """
    choices, users = _uses(found)
    missing = [len(results) for _, _, results in choices]
    queue = []
    for entry in found:
        if game.end(entry) is not None:
            heappush(queue, (game.end(entry), entry))
    least = {}
    while queue:
        worst, entry = heappop(queue)
        if entry not in least:
            least[entry] = worst
            for number in users.get(entry, []):
                # Costs are positive and come out ascending, so the last result of a choice is its worst one.
                missing[number] -= 1
                if missing[number] == 0:
                    user, cost, _ = choices[number]
                    heappush(queue, (worst + cost * game.scale, user))
    return least


def levels_from(least):
    """Return the levels that show least costs of which none is missing: entries at the goal, with 0, need none."""
    return {entry: least[entry] for entry in least if least[entry] > 0}


def as_fractions(table):
    """Return a table of integers as one of fractions, so that the same look at tables serves for both."""
    return {entry: (table[entry], 1) for entry in table}


def _is_table(game, table):
    """Return whether a dict is one from entries to fractions."""
    return all([game.is_entry(entry) and is_fraction(table[entry]) for entry in table])


def _is_high(game, heights, entry):
    """Return whether an entry ends with at most its height, or has a choice after which the heights are enough."""
    height = heights[entry]
    end = game.end(entry)
    if end is not None:
        return is_at_most((end, game.scale), height)
    return any([
        all([result in heights and is_at_most(add_whole(heights[result], cost), height) for result in results])
        for cost, results in game.choices(entry)
    ])


def heights_hold(game, heights):
    """Return whether each entry of a table has a height that is surely enough.

    Where no end is below 0, no height that holds is: there are lower ones behind it, down to an end.
    """
    return _is_table(game, heights) and all([_is_high(game, heights, entry) for entry in heights])


def _is_kept(levels, level, cost, results, base):
    """Return whether a choice costs a level at least, from the base, if there is one, or some result in the dict."""
    if base is not None and is_at_most(level, add_whole(base, cost)):
        return True
    return any([result in levels and is_at_most(level, add_whole(levels[result], cost)) for result in results])


def _is_low(game, levels, entry, base):
    """Return whether an entry ends with its level at least, or whether each choice there costs it at least."""
    level = levels[entry]
    end = game.end(entry)
    if end is not None:
        return is_at_most(level, (end, game.scale))
    return all([_is_kept(levels, level, cost, results, base) for cost, results in game.choices(entry)])


def levels_hold(game, levels, base):
    """Return whether nothing less than its level is surely enough for any entry of a table.

    Results that are not in the table, or have less than the base, count as the base, if it is not None.
    """
    return _is_table(game, levels) and all([_is_low(game, levels, entry, base) for entry in levels])


def shows_cost(game, begin, cost, heights, levels):
    """Return whether tables of integers show that a cost is the least that is surely enough from an entry."""
    highs, lows, enough = as_fractions(heights), as_fractions(levels), (cost, 1)
    if not is_fraction(enough) or not heights_hold(game, highs) or not levels_hold(game, lows, NOTHING):
        return False
    if begin not in highs or not is_at_most(highs[begin], enough):
        return False
    return cost <= 0 or (begin in lows and is_at_most(enough, lows[begin]))
