"""Rooms against steps, on small nets, by going through all stands."""

from fewrooms.moves import has_all, moves_of, stand_behind
from fewrooms.nets import all_needed


# For each stand that can be come to, the tuple of the fewest do's up to it, the stand ahead of it and the move between.
# All moves that lead to a stand have as many more do's than clears as it has results: so the fewest moves that lead
# there have the fewest do's, and the first way to be found has these.
def stands_reached(net, rooms):
    reached = {(): (0, None, None)}
    due = [()]
    while due:
        later = []
        for stand in due:
            for move in moves_of(net, rooms, stand):
                further = stand_behind(stand, move)
                if further not in reached:
                    steps = reached[stand][0] + (1 if move[0] == "do" else 0)
                    reached[further] = (steps, stand, move)
                    later.append(further)
        due = later
    return reached


# The stand with all asked results that the fewest do's lead to; None where there is none.
def best_end(reached, asked):
    ends = [stand for stand in reached if has_all(stand, asked)]
    return min(ends, key=lambda stand: (reached[stand][0], stand), default=None)


def plan_to(reached, stand):
    plan = []
    while reached[stand][2] is not None:
        plan.append(reached[stand][2])
        stand = reached[stand][1]
    plan.reverse()
    return plan


def least_steps(net, asked, rooms):
    reached = stands_reached(net, rooms)
    paper = [(stand, reached[stand][0]) for stand in sorted(reached)]
    end = best_end(reached, asked)
    if end is None:
        return ("none", paper)
    return ("plan", plan_to(reached, end), reached[end][0], paper)


def stair(net, asked):
    fewest_steps = len(all_needed(net, asked))
    told = []
    rooms = 0
    while not told or told[-1][1] > fewest_steps:
        rooms += 1
        reached = stands_reached(net, rooms)
        end = best_end(reached, asked)
        if end is not None:
            told.append((rooms, reached[end][0]))
    return told
