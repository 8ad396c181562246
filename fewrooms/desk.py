"""Answers to a sheet's deeds and asks, a text for each."""

from fewrooms.cuts import bracket
from fewrooms.errors import Barred, NoMove, NoTree, TooMany
from fewrooms.moves import moves_of
from fewrooms.plainly import plain_plan
from fewrooms.plans import most_of, steps_of
from fewrooms.sheetrows import read_sheet
from fewrooms.stairs import least_steps, stair
from fewrooms.trees import tree_plan, tree_rooms
from fewrooms.trying import fewest
from fewrooms.yard import Yard

# Of greater nets not all stands are tried.
MOST_TRIED = 10


def parted(parts, mark):
    return mark.join(parts) if parts else "-"


def numbers_told(numbers):
    return " ".join([str(number) for number in numbers])


def answer_deed(yard, deed):
    try:
        if deed[0] == "do":
            yard.do_work(deed[1])
        elif deed[0] == "clear":
            yard.clear_work(deed[1])
        else:
            yard.take_back()
    except Barred as barred:
        word = barred.word
        return f"barred {word}"
    except NoMove:
        return "none"
    return "done"


def answer_now(yard, names, net, rooms, word):
    if word == "stand":
        return parted([names[work] for work in yard.stand_now()], " ")
    if word == "moves":
        moves = moves_of(net, rooms, yard.stand_now())
        return parted([move[0] + " " + names[move[1]] for move in moves], " ; ")
    return numbers_told([yard.steps_now(), yard.most_now(), yard.free_now()])


def answer_tree(names, net, work):
    try:
        rooms = tree_rooms(net, work)
        plan = tree_plan(net, work)
    except NoTree:
        return "no tree"
    done = " ".join([names[move[1]] for move in plan if move[0] == "do"])
    return f"{rooms} : {done}"


def answer_cut(net, work):
    try:
        told = bracket(net, work)
    except TooMany:
        return "too many"
    return numbers_told(told[:2])


def answer_plain(net, asked):
    plan = plain_plan(net, asked)
    return numbers_told([most_of(net, plan), steps_of(plan)])


def answer_tried(net, deed):
    if len(net) > MOST_TRIED:
        return "too great"
    if deed[0] == "few":
        return str(fewest(net, deed[1])[0])
    if deed[0] == "stair":
        return parted([numbers_told(pair) for pair in stair(net, deed[1])], " ; ")
    told = least_steps(net, deed[2], deed[1])
    return str(told[2]) if told[0] == "plan" else "never"


def answer(yard, names, net, rooms, deed):
    word = deed[0]
    if word in ("do", "clear", "back"):
        return answer_deed(yard, deed)
    if word in ("stand", "moves", "count"):
        return answer_now(yard, names, net, rooms, word)
    if word == "tree":
        return answer_tree(names, net, deed[1])
    if word == "cut":
        return answer_cut(net, deed[1])
    if word == "plain":
        return answer_plain(net, deed[1])
    return answer_tried(net, deed)


def run(text):
    sheet = read_sheet(text)
    rooms = sheet[0]
    names = sheet[1]
    net = sheet[2]
    yard = Yard(net, rooms)
    return [answer(yard, names, net, rooms, deed) for deed in sheet[3]]
