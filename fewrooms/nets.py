"""Nets: a tuple with the rising tuple of its needs for each work."""

from fewrooms.kinds import is_rising


def is_net(thing):
    if not isinstance(thing, tuple) or len(thing) == 0:
        return False
    for work, needs in enumerate(thing):
        if not is_rising(needs, work):
            return False
    return True


def users_of(net, work):
    return [user for user, needs in enumerate(net) if work in needs]


def all_needed(net, asked):
    wanted = {}
    for work in asked:
        wanted[work] = True
    # Needs have lesser numbers, so on the way down each work is settled when it is come to.
    for work in range(len(net) - 1, -1, -1):
        if work in wanted:
            for need in net[work]:
                wanted[need] = True
    return sorted(wanted)


def levels(net):
    told = []
    for needs in net:
        told.append(1 + max([told[need] for need in needs], default=-1))
    return told


# For each work, by how many of the given works it is needed.
def use_counts(net, works):
    counts = [0] * len(net)
    for work in works:
        for need in net[work]:
            counts[need] += 1
    return counts


def ends_of(net):
    counts = use_counts(net, list(range(len(net))))
    return [work for work, count in enumerate(counts) if count == 0]


def renumbered(needs, numbers):
    return tuple([numbers[need] for need in needs if need in numbers])


def part_net(net, works):
    numbers = {}
    for number, work in enumerate(works):
        numbers[work] = number
    return tuple([renumbered(net[work], numbers) for work in works])


def is_tree(net, work):
    needed = all_needed(net, (work,))
    counts = use_counts(net, needed)
    return all([counts[other] == 1 for other in needed if other != work])


def shifted(needs, by):
    return tuple([need + by for need in needs])


def beside(one, other):
    return one + tuple([shifted(needs, len(one)) for needs in other])
