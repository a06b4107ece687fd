"""Sessions: roads that are taken in a world, taken back, and taken in trials."""

from shutroads.errors import BadRoad, BadRoads, NothingDone
from shutroads.maps import check_map, check_world, road_lengths
from shutroads.walks import first_state_in, is_at_goal, is_way, state_after_in

MOST_TRIED = 20


class Trail:
    """The roads that were taken, the states before and after them, and the trail at the beginning of the trial.

    A trail is never changed; so to go back to one is to have everything as it was. Outside of trials, outer is None.
    """

    def __init__(self, taken, states, outer):
        self.taken = taken
        self.states = states
        self.outer = outer


class Session:
    """A traveller in a world of a map, and the roads that it has taken."""

    def __init__(self, chart, world):
        check_map(chart)
        check_world(chart, world)
        self._chart = chart
        self._world = world
        self._trail = Trail((), (first_state_in(chart, world),), None)

    @property
    def state(self):
        """The state now."""
        return self._trail.states[-1]

    @property
    def journal(self):
        """The list of the roads that were taken."""
        return list(self._trail.taken)

    def __len__(self):
        return len(self._trail.taken)

    def __iter__(self):
        return iter(self._trail.taken)

    def __enter__(self):
        trail = self._trail
        self._trail = Trail(trail.taken, trail.states, trail)
        return self

    def __exit__(self, kind, value, trace):
        trail = self._trail
        self._trail = trail.outer

    def take(self, road):
        """Take a road, and return the state after it."""
        if not is_way(self._chart, self.state, road):
            raise BadRoad("not an open road at the place")
        trail = self._trail
        state = state_after_in(self._chart, self._world, self.state, road)
        self._trail = Trail((*trail.taken, road), (*trail.states, state), trail.outer)
        return state

    def is_done(self):
        """Return whether the traveller is at the goal."""
        return is_at_goal(self._chart, self.state)

    def total(self):
        """Return the sum of the lengths of all roads in the journal."""
        lengths = road_lengths(self._chart)
        return sum([lengths[road] for road in self._trail.taken])

    def undo(self):
        """Take back the last road, in a trial one of its own, and return it."""
        trail = self._trail
        kept = 0 if trail.outer is None else len(trail.outer.taken)
        if len(trail.taken) == kept:
            raise NothingDone("no road can be taken back")
        self._trail = Trail(trail.taken[:-1], trail.states[:-1], trail.outer)
        return trail.taken[-1]

    def branch(self):
        """Return an independent session with the same journal, in which all roads can be undone."""
        other = Session(self._chart, self._world)
        other._trail = Trail(self._trail.taken, self._trail.states, None)
        return other

    def trial(self):
        """Return the session, for a with-block at whose end everything is as at its beginning."""
        return self

    def tried(self, some):
        """Take roads in a trial, and return the list of the states after them."""
        if not isinstance(some, (list, tuple)) or len(some) > MOST_TRIED:
            raise BadRoads(None)
        found = []
        with self.trial():
            for index, road in enumerate(some):
                if not is_way(self._chart, self.state, road):
                    raise BadRoads(index)
                found.append(self.take(road))
        return found
