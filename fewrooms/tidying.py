"""Plans made short: what is of no use is left out, and results are kept where there are rooms for them.

A stay is told by the place in the plan of the do that it begins with.
"""


# The pair of two dicts: for each stay, in the order of the plan, the stays that its do needs; and for each work that is
# done its last stay. As the moves are let by, what a do needs is there, in the last stay that was begun till then.
def stays_of(net, plan):
    needed = {}
    latest = {}
    for place, move in enumerate(plan):
        if move[0] == "do":
            needed[place] = [latest[need] for need in net[move[1]]]
            latest[move[1]] = place
    return (needed, latest)


# The dict of the stays that are left when such as no do needs are left out again and again, but the given last ones.
def stays_left(needed, last):
    left = {}
    for stay in last:
        left[stay] = True
    # A stay is needed by later do's alone, so on the way back it is settled when it is come to.
    for stay in reversed(list(needed)):
        if stay in left:
            for other in needed[stay]:
                left[other] = True
    return left


def tidied(net, plan, asked):
    told = stays_of(net, plan)
    needed = told[0]
    last = [told[1][work] for work in asked]
    left = stays_left(needed, last)
    dos = [stay for stay in needed if stay in left]
    last_user = {}
    for stay in dos:
        for other in needed[stay]:
            last_user[other] = stay
    # Those of the asked results have no clear.
    for stay in last:
        last_user[stay] = None
    tidy = []
    for stay in dos:
        tidy.append(plan[stay])
        # The stays that a do needs come in the order of its needs, and these rise.
        for other in needed[stay]:
            if last_user[other] == stay:
                tidy.append(("clear", plan[other][1]))
    return tidy


# How many results there are behind each move.
def counts_behind(plan):
    counts = []
    count = 0
    for move in plan:
        count += 1 if move[0] == "do" else -1
        counts.append(count)
    return counts


# The pairs (place of a clear, place of the next do of the same work), rising.
def done_again(plan):
    cleared = {}
    pairs = []
    for place, move in enumerate(plan):
        if move[0] == "clear":
            cleared[move[1]] = place
        elif move[1] in cleared:
            pairs.append((cleared.pop(move[1]), place))
    return sorted(pairs)


# The first pair that may be left out; None where there is none. The result then takes a room more behind each move
# between the two, and nothing else is changed.
def first_spared(rooms, plan):
    counts = counts_behind(plan)
    for pair in done_again(plan):
        if all([count < rooms for count in counts[pair[0] + 1:pair[1]]]):
            return pair
    return None


def shortened(net, rooms, plan, asked):
    tidy = tidied(net, plan, asked)
    pair = first_spared(rooms, tidy)
    while pair is not None:
        less = [move for place, move in enumerate(tidy) if place not in pair]
        tidy = tidied(net, less, asked)
        pair = first_spared(rooms, tidy)
    return tidy
