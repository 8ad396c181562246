"""Whether a thing shows the least cost with a far shelf, or that no moves do."""

from fewrooms.errors import Barred
from fewrooms.kinds import is_number, is_numbered, is_pair, is_plan, is_rising, is_stand
from fewrooms.moves import has_all
from fewrooms.shelf import WORDS, cost_of, far_cost, far_moved, far_moves, place_behind


def is_place(net, rooms, thing):
    return is_pair(thing) and is_stand(net, rooms, thing[0]) and is_rising(thing[1], len(net))


# Whether no move from a place leads away from the numbers, or to a greater one than its cost accounts for.
def leads_on(net, rooms, costs, numbers, place):
    for move in far_moves(net, rooms, place):
        further = place_behind(place, move)
        if further not in numbers or numbers[further] > numbers[place] + cost_of(move, costs):
            return False
    return True


# Whether anything gives each place that can be come to, once, a number that is no greater than the least cost.
def is_paper(net, rooms, costs, thing):
    if not is_numbered(thing) or not all([is_place(net, rooms, pair[0]) for pair in thing]):
        return False
    numbers = dict(thing)
    if len(numbers) < len(thing) or numbers.get(((), ())) != 0:
        return False
    return all([leads_on(net, rooms, costs, numbers, place) for place in numbers])


# Whether any list of moves is let by, and has all asked ones in rooms at its end.
def does_far(net, asked, rooms, moves):
    place = ((), ())
    try:
        for move in moves:
            place = far_moved(net, rooms, place, move)
    except Barred:
        return False
    return has_all(place[0], asked)


def shows_far(net, asked, rooms, costs, thing):
    if is_pair(thing) and thing[0] == "none":
        return is_paper(net, rooms, costs, thing[1]) and not any([has_all(pair[0][0], asked) for pair in thing[1]])
    if not isinstance(thing, tuple) or len(thing) != 4 or thing[0] != "plan":
        return False
    moves = thing[1]
    cost = thing[2]
    if not is_plan(net, WORDS, moves) or not does_far(net, asked, rooms, moves):
        return False
    if not is_number(cost) or cost != far_cost(moves, costs) or not is_paper(net, rooms, costs, thing[3]):
        return False
    return all([pair[1] >= cost for pair in thing[3] if has_all(pair[0][0], asked)])
