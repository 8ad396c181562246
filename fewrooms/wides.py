"""Results that take many rooms: orders of trees, and the fewest rooms that an order has."""

from fewrooms.nets import all_needed
from fewrooms.trees import demand_tree


def taken_by(net, wides, work, order):
    last_user = {}
    for other in order:
        for need in net[other]:
            last_user[need] = other
    told = []
    kept = 0
    for other in order:
        kept += wides[other]
        told.append(kept)
        for need in net[other]:
            if last_user[need] == other:
                kept -= wides[need]
    return told


def stretched(net, wides, work):
    demand_tree(net, work)
    own = {}
    # Needs have lesser numbers, so they have their own pairs ahead of what needs them.
    for other in all_needed(net, (work,)):
        order = []
        for need in sorted(net[other], key=lambda one: (wides[one] - own[one][0], one)):
            order.extend(own[need][1])
        order.append(other)
        own[other] = (max(taken_by(net, wides, other, order)), order)
    return own[work]


# A part of an order is a tuple (rise, gain, works): how many rooms more than at its beginning are taken at the most as
# its works are done, and how many more behind it.
def joined(one, other):
    return (max(one[0], one[1] + other[0]), one[1] + other[1], one[2] + other[2])


# Parts are joined till each one behind another rises to less than it, and gains: between two such parts, and nowhere
# else, is it of use to go on with other works for a while.
def joined_parts(parts):
    told = []
    for part in parts:
        last = part
        while told and (last[1] <= 0 or told[-1][1] + last[0] >= told[-1][0]):
            last = joined(told.pop(), last)
        told.append(last)
    return told


# The parts of an order of the work with the fewest rooms, from those of its needs: these go by how far they fall from
# the most rooms that they take, greatest first. Those of one need fall less and less, and so stay in their order.
def parts_over(net, wides, work, own):
    parts = []
    for need in net[work]:
        parts.extend(own[need])
    parts = sorted(parts, key=lambda part: part[1] - part[0])
    given_up = sum([wides[need] for need in net[work]])
    return joined_parts(parts + [(wides[work], wides[work] - given_up, [work])])


def wide_order(net, wides, work):
    demand_tree(net, work)
    own = {}
    for other in all_needed(net, (work,)):
        own[other] = parts_over(net, wides, other, own)
    order = []
    for part in own[work]:
        order.extend(part[2])
    return order


def wide_rooms(net, wides, work):
    return max(taken_by(net, wides, work, wide_order(net, wides, work)))
