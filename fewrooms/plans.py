"""Plans: lists of moves, played from no results on."""

from fewrooms.errors import Barred
from fewrooms.moves import fault_of, has_all, stand_behind


def played(net, rooms, plan):
    stand = ()
    stands = [stand]
    for number, move in enumerate(plan):
        word = fault_of(net, rooms, stand, move)
        if word is not None:
            raise Barred(number, word)
        stand = stand_behind(stand, move)
        stands.append(stand)
    return stands


def steps_of(plan):
    return len([move for move in plan if move[0] == "do"])


def most_of(net, plan):
    return max([len(stand) for stand in played(net, len(net), plan)])


def does(net, rooms, plan, asked):
    try:
        stands = played(net, rooms, plan)
    except Barred:
        return False
    return has_all(stands[-1], asked)
