"""The fewest rooms of small nets, by trying all stands."""

from fewrooms.nets import all_needed, part_net
from fewrooms.stairs import best_end, plan_to, stands_reached


# Where works lie in a rising tuple that holds them: their numbers in the part of it.
def part_numbers(works, asked):
    return tuple([works.index(work) for work in asked])


def fewest(net, asked):
    works = tuple(all_needed(net, asked))
    part = part_net(net, works)
    wanted = part_numbers(works, asked)
    rooms = 0
    end = None
    while end is None:
        rooms += 1
        reached = stands_reached(part, rooms)
        end = best_end(reached, wanted)
    return (rooms, [(word, works[number]) for word, number in plan_to(reached, end)])


def never_paper(net, asked, rooms):
    works = tuple(all_needed(net, asked))
    reached = stands_reached(part_net(net, works), rooms)
    if best_end(reached, part_numbers(works, asked)) is not None:
        return None
    return (works, sorted(reached))
