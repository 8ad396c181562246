"""Whether a thing shows the least steps in so many rooms, or that no plan does."""

from fewrooms.kinds import is_number, is_numbered, is_pair, is_plan, is_stand
from fewrooms.moves import has_all, moves_of, stand_behind
from fewrooms.plans import does, steps_of


# Whether no move from a stand leads away from the numbers, or to a greater one than its steps account for.
def leads_on(net, rooms, numbers, stand):
    for move in moves_of(net, rooms, stand):
        further = stand_behind(stand, move)
        if further not in numbers or numbers[further] > numbers[stand] + steps_of([move]):
            return False
    return True


# Whether anything gives each stand that can be come to, once, a number that is no greater than the least steps.
def is_paper(net, rooms, thing):
    if not is_numbered(thing) or not all([is_stand(net, rooms, pair[0]) for pair in thing]):
        return False
    numbers = dict(thing)
    if len(numbers) < len(thing) or numbers.get(()) != 0:
        return False
    return all([leads_on(net, rooms, numbers, stand) for stand in numbers])


def shows_steps(net, asked, rooms, thing):
    if is_pair(thing) and thing[0] == "none":
        return is_paper(net, rooms, thing[1]) and not any([has_all(pair[0], asked) for pair in thing[1]])
    if not isinstance(thing, tuple) or len(thing) != 4 or thing[0] != "plan":
        return False
    plan = thing[1]
    steps = thing[2]
    if not is_plan(net, ("do", "clear"), plan) or not does(net, rooms, plan, asked):
        return False
    if not is_number(steps) or steps != steps_of(plan) or not is_paper(net, rooms, thing[3]):
        return False
    return all([pair[1] >= steps for pair in thing[3] if has_all(pair[0], asked)])
