"""Rooms of unlike size, on small nets, by going through all layouts."""

from fewrooms.errors import Barred
from fewrooms.kinds import is_below, is_number, is_pair
from fewrooms.moves import has_all
from fewrooms.plans import steps_of
from fewrooms.stairs import plan_to


def fault_of_do(net, wides, sizes, layout, move):
    work = move[1]
    room = move[2]
    if work in layout:
        return "there"
    if not has_all(layout, net[work]):
        return "needs"
    if layout[room] is not None:
        return "taken"
    if sizes[room] < wides[work]:
        return "small"
    return None


def fault_there(net, wides, sizes, layout, move):
    if move[0] == "do":
        return fault_of_do(net, wides, sizes, layout, move)
    if layout[move[1]] is None:
        return "empty"
    return None


# The layout behind a move of which it is known that it is let by.
def layout_behind(layout, move):
    room = move[-1]
    result = move[1] if move[0] == "do" else None
    return layout[:room] + (result,) + layout[room + 1:]


def moved_there(net, wides, sizes, layout, move):
    word = fault_there(net, wides, sizes, layout, move)
    if word is not None:
        raise Barred(0, word)
    return layout_behind(layout, move)


def moves_there(net, wides, sizes, layout):
    moves = [("clear", room) for room in range(len(sizes))]
    for work in range(len(net)):
        moves.extend([("do", work, room) for room in range(len(sizes))])
    return [move for move in moves if fault_there(net, wides, sizes, layout, move) is None]


# For each layout that can be come to, the tuple of the fewest do's up to it, the layout ahead of it and the move
# between. As with stands, the fewest moves that lead there have the fewest do's.
def layouts_reached(net, wides, sizes):
    start = (None,) * len(sizes)
    reached = {start: (0, None, None)}
    due = [start]
    while due:
        later = []
        for layout in due:
            for move in moves_there(net, wides, sizes, layout):
                further = layout_behind(layout, move)
                if further not in reached:
                    reached[further] = (reached[layout][0] + steps_of([move]), layout, move)
                    later.append(further)
        due = later
    return reached


# None goes ahead of all numbers.
def rank_of(layout):
    return [-1 if result is None else result for result in layout]


def least_there(net, wides, sizes, asked):
    reached = layouts_reached(net, wides, sizes)
    ends = [layout for layout in reached if has_all(layout, asked)]
    if not ends:
        return ("none", sorted(reached, key=rank_of))
    end = min(ends, key=lambda layout: reached[layout][0])
    return ("plan", plan_to(reached, end), reached[end][0])


def is_move_there(net, sizes, thing):
    if is_pair(thing):
        return thing[0] == "clear" and is_below(thing[1], len(sizes))
    if not isinstance(thing, tuple) or len(thing) != 3 or thing[0] != "do":
        return False
    return is_below(thing[1], len(net)) and is_below(thing[2], len(sizes))


# Whether anything is a list of moves that are let by, with all asked ones there at its end.
def does_there(net, wides, sizes, asked, thing):
    if not isinstance(thing, list) or not all([is_move_there(net, sizes, move) for move in thing]):
        return False
    layout = (None,) * len(sizes)
    try:
        for move in thing:
            layout = moved_there(net, wides, sizes, layout, move)
    except Barred:
        return False
    return has_all(layout, asked)


# Whether anything is a layout in which each work fits its room.
def is_layout(net, wides, sizes, thing):
    if not isinstance(thing, tuple) or len(thing) != len(sizes):
        return False
    there = {}
    for size, result in zip(sizes, thing):
        if result is None:
            continue
        if not is_below(result, len(net)) or wides[result] > size or result in there:
            return False
        there[result] = True
    return True


# Whether anything is a list of layouts that hold all that can be come to, and the asked ones never.
def never_there(net, wides, sizes, asked, thing):
    if not isinstance(thing, list) or not all([is_layout(net, wides, sizes, layout) for layout in thing]):
        return False
    known = {}
    for layout in thing:
        known[layout] = True
    for layout in known:
        for move in moves_there(net, wides, sizes, layout):
            if layout_behind(layout, move) not in known:
                return False
    return (None,) * len(sizes) in known and not any([has_all(layout, asked) for layout in known])


def shows_there(net, wides, sizes, asked, thing):
    if is_pair(thing) and thing[0] == "none":
        return never_there(net, wides, sizes, asked, thing[1])
    if not isinstance(thing, tuple) or len(thing) != 3 or thing[0] != "plan":
        return False
    if not does_there(net, wides, sizes, asked, thing[1]):
        return False
    return is_number(thing[2]) and thing[2] == steps_of(thing[1])
