"""The errors of the package, one class for each kind of failure."""


class RoadError(ValueError):
    """Any error of this package."""


class BadMap(RoadError):
    """An argument is no map (part is None), or a part of a new map is not as it must be."""

    def __init__(self, part=None):
        super().__init__(f"not a map: {part}")
        self.part = part


class BadState(RoadError):
    """An argument is no state of the map."""


class BadRoad(RoadError):
    """An argument is no open road at the place."""


class BadWorld(RoadError):
    """An argument is no world of the map."""


class TooLarge(RoadError):
    """There are more states or roads than the limit allows."""


class CutOff(RoadError):
    """Some world leaves no way from the beginning to the goal."""


class BadTools(RoadError):
    """An argument is no pair of tools."""


class BadPosition(RoadError):
    """An argument is no position of the map."""


class BadBound(RoadError):
    """An argument is no bound."""


class TooShort(RoadError):
    """No way is within the bound, even with no roads shut."""


class BadRule(RoadError):
    """An argument is no rule of a walker."""


class NothingDone(RoadError):
    """There is no road that can be taken back."""


class BadRoads(RoadError):
    """An argument is no list of roads (index is None), or the road at the index cannot be taken."""

    def __init__(self, index=None):
        super().__init__(f"not roads that can be taken: {index}")
        self.index = index


class BadText(RoadError):
    """A text is not written as it must be, first in the given row."""

    def __init__(self, row=0):
        super().__init__(f"not a text that can be read: {row}")
        self.row = row
