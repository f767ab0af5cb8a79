"""Data, the roads within it, and what each use of a program that comes to data costs."""

from kindbags.answers import inner_of_pair, is_data
from kindbags.running import run_through
from kindbags.walks import with_paths

MOST_RULES = 400
ROAD_WORDS = ("first", "second")


def roads(data):
    return [road_of(path) for path, part in with_paths(data, inner_of_pair)]


def road_of(path):
    return tuple([ROAD_WORDS[k] for k in path])


def along(program, road):
    gone = program
    for word in road:
        gone = (word, gone)
    return gone


def there(data, road):
    one = data
    for word in road:
        if one[0] != "pair":
            return None
        one = one[1 + ROAD_WORDS.index(word)]
    return one


def costs(program):
    told = data_and_costs(program)
    return None if told is None else told[1]


def data_and_costs(program):
    # A tuple, or None where the program doesn't come to data.
    gone = run_through(program, MOST_RULES)
    if gone[0] != "answer" or not is_data(gone[1]):
        return None
    return (gone[1], costs_along(roads(gone[1]), rules_by_road(gone[2])))


def rules_by_road(stood_at):
    # How many rules of a run were done in what stands at the end of a road.
    rules = {}
    for place in stood_at:
        road = road_of(place)
        rules[road] = rules.get(road, 0) + 1
    return rules


def costs_along(found, rules):
    # The program gone along a road does just those rules of its own run that were done on the road or beyond its
    # end, and does them alike whatever is around; so no other run is needed.
    ahead = {(): 0}
    for road in found[1:]:
        ahead[road] = ahead[road[:-1]] + rules.get(road[:-1], 0)
    beyond = {}
    for road in reversed(found):
        beyond[road] = beyond.get(road, 0) + rules.get(road, 0)
        if road != ():
            beyond[road[:-1]] = beyond.get(road[:-1], 0) + beyond[road]
    costs_of = {}
    for road in found:
        costs_of[road] = ahead[road] + beyond[road]
    return costs_of
