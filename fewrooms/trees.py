"""The fewest rooms of trees, by the numbers that their works settle."""

from fewrooms.errors import NoTree
from fewrooms.nets import all_needed, is_tree


def demand_tree(net, work):
    if not is_tree(net, work):
        raise NoTree(f"work {work} has no tree of its own")


# Needs with greater numbers go first: each one that is done keeps a room while the next ones are done.
def number_over(falling):
    taken = [number + ahead for ahead, number in enumerate(falling)]
    return max([len(falling) + 1] + taken)


def numbers_of(net, work):
    demand_tree(net, work)
    numbers = {}
    # Needs have lesser numbers, so they are settled ahead of what needs them.
    for other in all_needed(net, (work,)):
        numbers[other] = number_over(sorted([numbers[need] for need in net[other]], reverse=True))
    return list(numbers.items())


def tree_rooms(net, work):
    return dict(numbers_of(net, work))[work]


def tree_plan(net, work):
    numbers = dict(numbers_of(net, work))
    plans = {}
    for other in numbers:
        plan = []
        for need in sorted(net[other], key=lambda one: (-numbers[one], one)):
            # Taken out, as in a tree none else needs it.
            plan.extend(plans.pop(need))
        plan.append(("do", other))
        plans[other] = plan + [("clear", need) for need in net[other]]
    return plans[work]
