"""Nets and things that the tests share, and small plain ways to try all."""

import heapq
import random


def row(n):
    return tuple(() if k == 0 else (k - 1,) for k in range(n))


def all_ahead(n):
    return tuple(tuple(range(k)) for k in range(n))


def square(n, m):
    net = []
    for i in range(n):
        for j in range(m):
            needs = []
            if i:
                needs.append((i - 1) * m + j)
            if j:
                needs.append(i * m + j - 1)
            net.append(tuple(needs))
    return tuple(net)


def full_tree(height):
    """Two needs for each work above the ground, numbered from the ground up."""
    net = [()] * 2 ** height
    row_ahead = list(range(2 ** height))
    while len(row_ahead) > 1:
        pairs = [tuple(row_ahead[k:k + 2]) for k in range(0, len(row_ahead), 2)]
        row_ahead = list(range(len(net), len(net) + len(pairs)))
        net.extend(pairs)
    return tuple(net)


def ladder(n):
    """Two works, then n pairs of works that need both of the pair ahead."""
    net = [(), ()]
    for k in range(n):
        net += [(2 * k, 2 * k + 1)] * 2
    return tuple(net)


ONE = ((),)
# For 6 in three rooms, 0 must be done twice: it has to give way to 5, and 6 needs it again.
TWICE = ((), (0,), (0,), (1,), (2,), (3, 4), (0, 5))
# A chain whose first works are wanted again at its end, last ones first: the fewer rooms, the more is done again.
BACK_AND_FORTH = ((), (0,), (1,), (2,), (3,), (3, 4), (2, 5), (1, 6), (0, 7))
# 3 needs 1 and 2, both need 0; nobody needs 4, and 5 needs 0 and 3.
MIXED = ((), (0,), (0,), (1, 2), (2,), (0, 3))
# A tree up to 6, of which a work beyond it, 7, needs parts too; 8 stands alone.
LEANT_ON = ((), (), (0, 1), (), (3,), (), (2, 4, 5), (0, 4), ())

NAMED = (
    ONE,
    ((), ()),
    MIXED,
    LEANT_ON,
    row(5),
    row(400),
    all_ahead(6),
    square(3, 4),
    full_tree(3),
    ladder(4),
    ((),) * 7,
)


def chance_net(dice, n, most=3):
    net = []
    for k in range(n):
        many = dice.randint(0, min(most, k))
        net.append(tuple(sorted(dice.sample(range(k), many))))
    return tuple(net)


def chance_nets(seed, many, most_works, most_needs=3):
    dice = random.Random(seed)
    return [chance_net(dice, dice.randint(1, most_works), most_needs) for _ in range(many)]


def chance_tree(dice, n, most=3):
    """Each work but the last is needed by just one; some works are gathered by each new one."""
    net, free = [], []
    for work in range(n):
        many = len(free) if work == n - 1 else min(len(free), dice.randint(0, most))
        needs = dice.sample(free, many)
        free = [one for one in free if one not in needs] + [work]
        net.append(tuple(sorted(needs)))
    return tuple(net)


def chance_trees(seed, many, most_works):
    dice = random.Random(seed)
    return [chance_tree(dice, dice.randint(1, most_works)) for _ in range(many)]


def chance_asked(dice, net):
    many = dice.randint(1, min(4, len(net)))
    return tuple(sorted(dice.sample(range(len(net)), many)))


def is_a_net(net):
    return (type(net) is tuple and len(net) > 0 and all(
        type(needs) is tuple and list(needs) == sorted(set(needs))
        and all(type(need) is int and 0 <= need < work for need in needs)
        for work, needs in enumerate(net)))


def nested(thing, depth, kind):
    for _ in range(depth):
        thing = kind((thing,))
    return thing


ODD_THINGS = (
    None, True, False, 0, 1, -1, 10 ** 30, "", "net", "()", (), [], [()], [[]], ((), []), ([],), (None,), (0,), (1,),
    (True,), ("",), ("a", "b"), ((), (), 3), ((), "0"), ((), None), ((), True), (((),),), [(), (0,)], (((), ()),),
    nested(0, 19, tuple), nested((), 19, tuple), nested((), 19, list), nested(None, 19, list), nested("a", 19, tuple),
)


def chance_plan(dice, net, rooms, many):
    """A plan of moves that are let by in so many rooms, found without the program."""
    stand, plan = set(), []
    for _ in range(many):
        dos = [("do", work) for work in range(len(net))
               if work not in stand and set(net[work]) <= stand and len(stand) < rooms]
        moves = dos * 2 + [("clear", work) for work in sorted(stand)]
        word, work = dice.choice(moves)
        plan.append((word, work))
        stand.symmetric_difference_update((work,))
    return plan


def stands_behind(plan):
    """The stands of a plan whose moves are known to be let by."""
    stands = [()]
    for word, work in plan:
        stands.append(tuple(sorted(set(stands[-1]) ^ {work})))
    return stands


def first_fault(net, rooms, plan):
    """The number and word of the first move that is barred, or None."""
    stand = set()
    for number, (word, work) in enumerate(plan):
        if word == "clear":
            due = [("empty", work not in stand)]
        else:
            due = [("there", work in stand), ("needs", not set(net[work]) <= stand), ("full", len(stand) >= rooms)]
        for fault, is_due in due:
            if is_due:
                return number, fault
        stand ^= {work}
    return None


def paths_by_words(net, work):
    if not net[work]:
        return [(work,)]
    return sorted(path + (work,) for need in net[work] for path in paths_by_words(net, need))


def sides_by_words(net, path):
    """All sides of a path."""
    ends = {need for work in path[1:] for need in net[work]}
    sides = [side for end in sorted(ends) for side in paths_by_words(net, end)]
    return [side for side in sides if not set(side) & set(path)]


def most_apart(sides):
    """How many of the sides, at the most, have no common work, by trying all."""
    if not sides:
        return 0
    first, rest = sides[0], sides[1:]
    apart = [side for side in rest if not set(side) & set(first)]
    return max(most_apart(rest), 1 + most_apart(apart))


def joined(counts):
    """A work with as many paths as the counts multiplied."""
    net = [()]
    for many in counts:
        last = len(net) - 1
        net += [(last,)] * many
        net.append(tuple(range(last + 1, last + 1 + many)))
    return tuple(net)


def moves_by_words(net, rooms, stand):
    """Pairs (word, stand behind it) of all moves that are let by at a stand."""
    for work in range(len(net)):
        if work in stand:
            yield "clear", tuple(result for result in stand if result != work)
        elif set(net[work]) <= set(stand) and len(stand) < rooms:
            yield "do", tuple(sorted(stand + (work,)))


def reached_by_words(net, rooms):
    """For each stand that can be come to, the fewest do's up to it."""
    steps, due = {}, [(0, ())]
    while due:
        number, stand = heapq.heappop(due)
        if stand not in steps:
            steps[stand] = number
            for word, further in moves_by_words(net, rooms, stand):
                heapq.heappush(due, (number + (word == "do"), further))
    return steps


def least_by_words(net, asked, rooms):
    """The fewest steps of a plan that does asked in so many rooms, or None."""
    steps = reached_by_words(net, rooms)
    return min((steps[stand] for stand in steps if set(asked) <= set(stand)), default=None)


def fewest_by_words(net, asked):
    rooms = 1
    while least_by_words(net, asked, rooms) is None:
        rooms += 1
    return rooms


def lists_in(thing):
    """All lists within a thing, itself among them."""
    found = [thing] if isinstance(thing, list) else []
    if isinstance(thing, (list, tuple)):
        for part in thing:
            found += lists_in(part)
    return found


def spoil(thing):
    """Empties all lists within a thing."""
    for found in lists_in(thing):
        found.clear()


def plan_does(net, rooms, plan, asked):
    """Whether a plan is let by whole and ends with the asked results, without the program."""
    return first_fault(net, rooms, plan) is None and set(asked) <= set(stands_behind(plan)[-1])


def asks(nets, seed, many=3):
    """Each net with its last work asked, and with so many drawn asked tuples."""
    dice = random.Random(seed)
    for net in nets:
        yield net, (len(net) - 1,)
        for _ in range(many):
            yield net, chance_asked(dice, net)


def is_a_number(thing):
    return type(thing) is int


def is_a_stand(net, thing):
    return (type(thing) is tuple and all(is_a_number(work) and 0 <= work < len(net) for work in thing)
            and list(thing) == sorted(set(thing)))


def part_by_words(net, works):
    return tuple(tuple(works.index(need) for need in net[work] if need in works) for work in works)


def far_moves_by_words(net, rooms, place):
    """Pairs (move, place behind it) of all moves that are let by at a place."""
    near, far = place
    for work in range(len(net)):
        with_near, with_far = tuple(sorted(set(near) | {work})), tuple(sorted(set(far) | {work}))
        if work in near:
            yield ("clear", work), (tuple(one for one in near if one != work), far)
            if work not in far:
                yield ("put", work), (near, with_far)
        elif len(near) < rooms:
            if set(net[work]) <= set(near):
                yield ("do", work), (with_near, far)
            if work in far:
                yield ("fetch", work), (with_near, far)


def cost_by_words(moves, costs):
    do, put, fetch = costs
    return sum({"do": do, "clear": 0, "put": put, "fetch": fetch}[word] for word, work in moves)


def far_reached_by_words(net, rooms, costs):
    """For each place that can be come to, the least cost up to it."""
    cost, due = {}, [(0, ((), ()))]
    while due:
        number, place = heapq.heappop(due)
        if place not in cost:
            cost[place] = number
            for move, further in far_moves_by_words(net, rooms, place):
                heapq.heappush(due, (number + cost_by_words([move], costs), further))
    return cost


def far_place_behind(net, rooms, moves):
    """The place behind moves from ((), ()) on, or None where one is barred."""
    place = ((), ())
    for move in moves:
        place = dict(far_moves_by_words(net, rooms, place)).get(move)
        if place is None:
            return None
    return place


def there_moves_by_words(net, wides, sizes, layout):
    """Pairs (move, layout behind it) of all moves that are let by at a layout."""
    for room, size in enumerate(sizes):
        if layout[room] is not None:
            yield ("clear", room), layout[:room] + (None,) + layout[room + 1:]
            continue
        for work, needs in enumerate(net):
            if work not in layout and set(needs) <= set(layout) and wides[work] <= size:
                yield ("do", work, room), layout[:room] + (work,) + layout[room + 1:]


def there_reached_by_words(net, wides, sizes):
    """For each layout that can be come to, the fewest do's up to it."""
    steps, due = {}, [[(None,) * len(sizes)]]
    for number, layouts in enumerate(due):
        # Clears count for nothing, so what they lead to is gone on from in the same round.
        while layouts:
            layout = layouts.pop()
            if layout not in steps:
                steps[layout] = number
                due.append([])
                for move, further in there_moves_by_words(net, wides, sizes, layout):
                    due[number + (move[0] == "do")].append(further)
    return steps


def layout_by_moves(net, wides, sizes, moves):
    """The layout behind moves from all None on, or None where one is barred."""
    layout = (None,) * len(sizes)
    for move in moves:
        layout = dict(there_moves_by_words(net, wides, sizes, layout)).get(move)
        if layout is None:
            return None
    return layout


def bent(dice, thing):
    """The thing with one part of it, at any depth, another one, of another kind, left out, twice or elsewhere."""
    if not isinstance(thing, (list, tuple)):
        if is_a_number(thing):
            return dice.choice((thing - 1, thing + 1, 0, -thing, bool(thing), str(thing), (thing,), None, 10 ** 9))
        return dice.choice((None, True, 0, "", "do", "clear", "put", "fetch", "plan", "none", (thing,), [thing]))
    parts = list(thing)
    place = dice.randrange(len(parts)) if parts else 0
    chance = dice.random()
    if parts and chance < 0.6:
        parts[place] = bent(dice, parts[place])
    elif parts and chance < 0.7:
        parts.pop(place)
    elif parts and chance < 0.8:
        parts.insert(dice.randint(0, len(parts)), parts[place])
    elif chance < 0.85:
        dice.shuffle(parts)
    elif chance < 0.9:
        parts.append(dice.choice(ODD_THINGS))
    elif chance < 0.95:
        return dice.choice(ODD_THINGS)
    else:
        return tuple(parts) if isinstance(thing, list) else parts
    return type(thing)(parts)
