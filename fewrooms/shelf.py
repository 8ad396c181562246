"""A far shelf, to which results are put and from which they are fetched, each at a cost."""

from fewrooms.errors import Barred
from fewrooms.moves import fault_of, has_all, stand_behind
from fewrooms.stairs import plan_to

# In the order of the costs that are handed in; clears cost none.
WITH_COST = ("do", "put", "fetch")
WORDS = ("do", "clear", "put", "fetch")


def fault_of_put(place, work):
    if work not in place[0]:
        return "empty"
    if work in place[1]:
        return "far"
    return None


def fault_of_fetch(rooms, place, work):
    if work in place[0]:
        return "there"
    if work not in place[1]:
        return "near"
    if len(place[0]) >= rooms:
        return "full"
    return None


def far_fault(net, rooms, place, move):
    if move[0] == "put":
        return fault_of_put(place, move[1])
    if move[0] == "fetch":
        return fault_of_fetch(rooms, place, move[1])
    return fault_of(net, rooms, place[0], move)


# The place behind a move of which it is known that it is let by.
def place_behind(place, move):
    if move[0] == "put":
        return (place[0], tuple(sorted(place[1] + (move[1],))))
    if move[0] == "fetch":
        return (tuple(sorted(place[0] + (move[1],))), place[1])
    return (stand_behind(place[0], move), place[1])


def far_moved(net, rooms, place, move):
    word = far_fault(net, rooms, place, move)
    if word is not None:
        raise Barred(0, word)
    return place_behind(place, move)


def far_moves(net, rooms, place):
    told = []
    for word in WORDS:
        moves = [(word, work) for work in range(len(net))]
        told.extend([move for move in moves if far_fault(net, rooms, place, move) is None])
    return told


def cost_of(move, costs):
    if move[0] == "clear":
        return 0
    return costs[WITH_COST.index(move[0])]


def far_cost(moves, costs):
    return sum([cost_of(move, costs) for move in moves])


# For each place that can be come to, the tuple of the least cost up to it, the place ahead of it and the move between.
# Places are gone on from by rising costs, so none that was gone on from is come to at a lesser cost later.
def places_reached(net, rooms, costs):
    start = ((), ())
    reached = {start: (0, None, None)}
    due = {0: [start]}
    while due:
        cost = min(list(due))
        places = due.pop(cost)
        # One that was come to at a lesser cost since has been gone on from already.
        for place in [one for one in places if reached[one][0] == cost]:
            for move in far_moves(net, rooms, place):
                further = place_behind(place, move)
                total = cost + cost_of(move, costs)
                if further not in reached or total < reached[further][0]:
                    reached[further] = (total, place, move)
                    due.setdefault(total, []).append(further)
    return reached


def least_far(net, asked, rooms, costs):
    reached = places_reached(net, rooms, costs)
    paper = [(place, reached[place][0]) for place in sorted(reached)]
    ends = [place for place in reached if has_all(place[0], asked)]
    if not ends:
        return ("none", paper)
    end = min(ends, key=lambda place: (reached[place][0], place))
    return ("plan", plan_to(reached, end), reached[end][0], paper)
