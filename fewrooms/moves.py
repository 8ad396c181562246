"""Moves at a stand: let by or barred, and what stand they lead to."""

from fewrooms.errors import Barred


def fault_of_do(net, rooms, stand, work):
    there = {}
    for result in stand:
        there[result] = True
    if work in there:
        return "there"
    for need in net[work]:
        if need not in there:
            return "needs"
    if len(stand) >= rooms:
        return "full"
    return None


def fault_of(net, rooms, stand, move):
    if move[0] == "do":
        return fault_of_do(net, rooms, stand, move[1])
    if move[1] in stand:
        return None
    return "empty"


# The stand behind a move of which it is known that it is let by.
def stand_behind(stand, move):
    if move[0] == "do":
        return tuple(sorted(stand + (move[1],)))
    return tuple([result for result in stand if result != move[1]])


def moved(net, rooms, stand, move):
    word = fault_of(net, rooms, stand, move)
    if word is not None:
        raise Barred(0, word)
    return stand_behind(stand, move)


def has_all(results, works):
    return all([work in results for work in works])


def moves_of(net, rooms, stand):
    dos = [("do", work) for work in range(len(net))]
    clears = [("clear", work) for work in range(len(net))]
    return [move for move in dos + clears if fault_of(net, rooms, stand, move) is None]
