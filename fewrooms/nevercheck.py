"""Whether a thing shows that so many rooms never do."""

from fewrooms.kinds import is_pair, is_rising, is_stand
from fewrooms.moves import has_all, moves_of, stand_behind
from fewrooms.nets import part_net


# Whether no move that is let by at one of the stands leads away from them.
def are_closed(net, rooms, stands):
    known = {}
    for stand in stands:
        known[stand] = True
    for stand in known:
        for move in moves_of(net, rooms, stand):
            if stand_behind(stand, move) not in known:
                return False
    return True


# Whether the stands, of which anything may be handed in, hold all that can be come to, and the wanted results never.
def never_come_to(net, wanted, rooms, stands):
    if not isinstance(stands, list) or not all([is_stand(net, rooms, stand) for stand in stands]):
        return False
    if () not in stands or not are_closed(net, rooms, stands):
        return False
    return not any([has_all(stand, wanted) for stand in stands])


def shows_never(net, asked, rooms, thing):
    if not is_pair(thing) or not is_rising(thing[0], len(net)):
        return False
    works = thing[0]
    wanted = [works.index(work) for work in asked if work in works]
    # Without an asked work the part tells nothing of them.
    return len(wanted) > 0 and never_come_to(part_net(net, works), wanted, rooms, thing[1])
