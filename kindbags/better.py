"""Whether one program is as good as another, and how much it saves."""

from kindbags.errors import NoData
from kindbags.uses import costs, data_and_costs, there


def as_good(one, other):
    told = data_and_costs(one)
    other_told = data_and_costs(other)
    if told is None or other_told is None:
        raise NoData()
    for road in told[1]:
        if are_unlike(there(told[0], road), there(other_told[0], road)):
            return ("other", road)
    for road, cost in told[1].items():
        if cost > other_told[1][road]:
            return ("more", road)
    return None


def are_unlike(one, other):
    # Of two pairs it is told by what stands in them.
    return one[0] != other[0] or one[0] == "whole" and one[1] != other[1]


def fewer(kind, one, other):
    road = road_of_kind(kind)
    return costs(other)[road] - costs(one)[road]


def road_of_kind(kind):
    road = []
    used = kind
    while used[0] == "left" or used[0] == "right":
        road.append("first" if used[0] == "left" else "second")
        used = used[1]
    return tuple(road)
