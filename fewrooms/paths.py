"""Paths to a work, and the sides of a path."""

from fewrooms.errors import TooMany
from fewrooms.kinds import is_below

MOST_PATHS = 300

# Where every side comes from, and where it goes to, as stops of the search.
SOURCE = -1
GOAL = -2


# How many paths lead to a work, or one more than the most where there are more.
def count_paths(net, work):
    counts = []
    for needs in net[:work + 1]:
        count = sum([counts[need] for need in needs]) if needs else 1
        counts.append(min(count, MOST_PATHS + 1))
    return counts[work]


def all_paths(net, work):
    # Counted ahead, as there may be more than can be gone through.
    if count_paths(net, work) > MOST_PATHS:
        raise TooMany(f"more than {MOST_PATHS} paths lead to work {work}")
    paths = []
    begun = [(work,)]
    while begun:
        path = begun.pop()
        needs = net[path[0]]
        if not needs:
            paths.append(path)
        for need in needs:
            begun.append((need,) + path)
    return sorted(paths)


# The works off a path at which its sides end.
def side_ends(net, path):
    ends = {}
    for work in path[1:]:
        for need in net[work]:
            if need not in path:
                ends[need] = True
    return ends


# The stops to which one may go on from each stop. A work off the path has two stops, 2 * work where a side comes in
# and 2 * work + 1 where it goes out, with one way between them: so no two sides share the work.
def free_ways(net, path):
    ends = side_ends(net, path)
    ways = {SOURCE: [], GOAL: []}
    for work, needs in enumerate(net):
        if work in path:
            continue
        ways[2 * work] = [2 * work + 1]
        ways[2 * work + 1] = [GOAL] if work in ends else []
        if not needs:
            ways[SOURCE].append(2 * work)
        for need in needs:
            if need not in path:
                ways[2 * need + 1].append(2 * work)
    return ways


# The stops of a way from the source to the goal, told from the goal back; none where there is no way.
def way_back(ways):
    came_from = {SOURCE: None}
    due = [SOURCE]
    while due and GOAL not in came_from:
        stop = due.pop()
        for further in ways[stop]:
            if further not in came_from:
                came_from[further] = stop
                due.append(further)
    if GOAL not in came_from:
        return []
    stops = [GOAL]
    while stops[-1] != SOURCE:
        stops.append(came_from[stops[-1]])
    return stops


# A way that is taken is turned round, so that a later one may undo a part of it.
def turn_round(ways, stops):
    for further, stop in zip(stops, stops[1:]):
        ways[stop].remove(further)
        ways[further].append(stop)


# The only way that leads on from where a side comes into a work is the turned one, back along the side.
def side_to(ways, work):
    side = (work,)
    stop = ways[2 * work][0]
    while stop != SOURCE:
        side = (stop // 2,) + side
        stop = ways[2 * side[0]][0]
    return side


def sides_of(net, path):
    ways = free_ways(net, path)
    stops = way_back(ways)
    while stops:
        turn_round(ways, stops)
        stops = way_back(ways)
    return sorted([side_to(ways, stop // 2) for stop in ways[GOAL]])


# Whether anything is a path of the net to some work.
def is_path(net, thing):
    if not isinstance(thing, tuple) or len(thing) == 0:
        return False
    if not all([is_below(part, len(net)) for part in thing]):
        return False
    for ahead, work in zip(thing, thing[1:]):
        if ahead not in net[work]:
            return False
    return len(net[thing[0]]) == 0


def shows_sides(net, path, thing):
    if not isinstance(thing, list):
        return False
    ends = side_ends(net, path)
    taken = {}
    for work in path:
        taken[work] = True
    for side in thing:
        if not is_path(net, side) or side[-1] not in ends:
            return False
        for work in side:
            if work in taken:
                return False
            taken[work] = True
    return True
