"""Maps, their worlds, and the least length of a way in a world."""

from shutroads.errors import BadMap, BadWorld

LEAST_PLACES = 2
MOST_PLACES = 6
MOST_ROADS = 8
LONGEST = 9
MOST_SHUT = 3


class Map:
    """A map, which is checked when it is made, and never changes."""

    def __init__(self, places, roads, ends, most):
        if not is_within(places, LEAST_PLACES, MOST_PLACES):
            raise BadMap("PLACES")
        if not are_triples(places, roads):
            raise BadMap("ROADS")
        if not are_ends(places, ends):
            raise BadMap("ENDS")
        if not is_within(most, 0, MOST_SHUT):
            raise BadMap("MOST")
        self._places = places
        self._roads = roads
        self._ends = ends
        self._most = most

    @property
    def places(self):
        """The number of places."""
        return self._places

    @property
    def roads(self):
        """The tuple of the roads, each one two places and a length."""
        return self._roads

    @property
    def ends(self):
        """The pair of the place where the traveller begins, and the goal."""
        return self._ends

    @property
    def most(self):
        """The greatest number of roads that are shut."""
        return self._most

    def __len__(self):
        return len(self._roads)

    def __eq__(self, other):
        return (isinstance(other, Map) and self._places == other._places and self._roads == other._roads
                and self._ends == other._ends and self._most == other._most)


def is_integer(value):
    """Return whether a value is an integer, and no boolean."""
    return isinstance(value, int) and not isinstance(value, bool)


def is_within(value, low, high):
    """Return whether a value is an integer, no boolean, from low to high."""
    return is_integer(value) and low <= value <= high


def ascends(items):
    """Return whether integers, or tuples of them, are ascending, none of them twice."""
    return list(items) == sorted(set(items))


def _is_triple(places, triple):
    """Return whether a value is two places, the first one less than the second one, and a length."""
    if not isinstance(triple, tuple) or len(triple) != 3:
        return False
    first, second, length = triple
    return is_within(second, 1, places - 1) and is_within(first, 0, second - 1) and is_within(length, 1, LONGEST)


def are_triples(places, roads):
    """Return whether a value is a tuple of roads, as a new map has them."""
    if not isinstance(roads, tuple) or not 1 <= len(roads) <= MOST_ROADS:
        return False
    return all([_is_triple(places, triple) for triple in roads]) and ascends(roads)


def are_ends(places, ends):
    """Return whether a value is a pair of two different places."""
    if not isinstance(ends, tuple) or len(ends) != 2:
        return False
    return all([is_within(place, 0, places - 1) for place in ends]) and ends[0] != ends[1]


def is_road(chart, road):
    """Return whether a value is a road of a map."""
    return is_within(road, 0, len(chart) - 1)


def are_roads(chart, some):
    """Return whether a value is an ascending tuple of roads of a map."""
    return isinstance(some, tuple) and all([is_road(chart, road) for road in some]) and ascends(some)


def is_world(chart, world):
    """Return whether a value is a world of a map."""
    return are_roads(chart, world) and len(world) <= chart.most


def check_map(chart):
    """Raise BadMap if an argument is no map."""
    if not isinstance(chart, Map):
        raise BadMap(None)


def check_world(chart, world):
    """Raise BadWorld if an argument is no world of a map."""
    if not is_world(chart, world):
        raise BadWorld("not a world of the map")


def roads_at(chart, place):
    """Return the list of the roads at a place, ascending."""
    return [road for road, (first, second, _) in enumerate(chart.roads) if place in (first, second)]


def other_end(chart, road, place):
    """Return the place to which a road leads from the place at one of its ends."""
    first, second, _ = chart.roads[road]
    return second if place == first else first


def small_sets(roads, most):
    """Return the list of the ascending tuples of at most so many of ascending roads, in the order of worlds."""
    found = [()]
    layer = [()]
    for _ in range(most):
        # A longer tuple follows from each shorter one in order, so each layer is in order, too.
        layer = [(*some, road) for some in layer for road in roads if some == () or some[-1] < road]
        found.extend(layer)
    return found


def worlds(chart):
    """Return the list of all worlds of a map, by their lengths, then as tuples."""
    check_map(chart)
    return small_sets(list(range(len(chart))), chart.most)


def _lower(sums, start, end, price):
    """Lower the sum of the way to one end of a road if it is less over the other end."""
    if sums[start] is None:
        return
    if sums[end] is None or sums[start] + price < sums[end]:
        sums[end] = sums[start] + price


def road_lengths(chart):
    """Return the list of the lengths of the roads of a map."""
    return [length for _, _, length in chart.roads]


def least_sums(chart, begin, shut, prices):
    """Return the list of the least sums of prices of ways from a place to each one without shut roads, None for no way.

    Each road has a price of at least 1.
    """
    sums = [None] * chart.places
    sums[begin] = 0
    # A cheapest way has fewer roads than there are places, and each round finds at least one road more of it.
    for _ in range(chart.places - 1):
        for road, (first, second, _) in enumerate(chart.roads):
            if road not in shut:
                _lower(sums, first, second, prices[road])
                _lower(sums, second, first, prices[road])
    return sums


def least_lengths(chart, begin, shut):
    """Return the list of the least lengths of ways from a place to each one without shut roads, None for no way."""
    return least_sums(chart, begin, shut, road_lengths(chart))


def leaves_no_way(chart, place, world):
    """Return whether a world leaves no way from a place to the goal."""
    return least_lengths(chart, place, world)[chart.ends[1]] is None


def open_length(chart, world):
    """Return the least length of a way from the beginning to the goal in a world, None if there is none."""
    check_map(chart)
    check_world(chart, world)
    begin, goal = chart.ends
    return least_lengths(chart, begin, world)[goal]
