"""Nets put behind one another: works of other that need none become works of one."""

from fewrooms.plainly import plain_plan
from fewrooms.plans import most_of


# The new number of each work of other.
def new_numbers(one, other, ins):
    numbers = dict(ins)
    free = len(one)
    for work in range(len(other)):
        if work not in numbers:
            numbers[work] = free
            free += 1
    return numbers


def needs_behind(needs, numbers):
    return tuple(sorted([numbers[need] for need in needs]))


def put_behind(one, other, ins):
    numbers = new_numbers(one, other, ins)
    joined = dict(ins)
    kept = [needs for work, needs in enumerate(other) if work not in joined]
    return one + tuple([needs_behind(needs, numbers) for needs in kept])


def number_behind(one, other, ins, work):
    return new_numbers(one, other, ins)[work]


def plan_behind(one, other, ins, plan):
    numbers = new_numbers(one, other, ins)
    joined = dict(ins)
    there = {}
    told = []
    for word, work in plan:
        number = numbers[work]
        if word == "clear":
            told.append(("clear", number))
            there.pop(number)
        else:
            if work in joined:
                told.extend([move for move in plain_plan(one, (number,)) if move[1] not in there])
            else:
                told.append(("do", number))
            there[number] = True
    return told


def rooms_behind(one, other, ins, plan):
    if len(ins) == 0:
        return most_of(other, plan)
    wanted = [most_of(one, plain_plan(one, (pair[1],))) for pair in ins]
    return max(wanted) + most_of(other, plan) - 1
