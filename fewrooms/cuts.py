"""Rooms that a work wants at least, by the sides of its paths, and rooms in which it can be done."""

from fewrooms.paths import all_paths, sides_of
from fewrooms.plainly import deep_plan, plain_plan
from fewrooms.plans import most_of


def cut_paper(net, work):
    return [(path, sides_of(net, path)) for path in all_paths(net, work)]


def cut_bound(net, work):
    if not net[work]:
        return 1
    return 2 + min([len(pair[1]) for pair in cut_paper(net, work)])


def bracket(net, work):
    low = cut_bound(net, work)
    plain = plain_plan(net, (work,))
    deep = deep_plan(net, (work,))
    plain_most = most_of(net, plain)
    deep_most = most_of(net, deep)
    if deep_most < plain_most:
        return (low, deep_most, deep)
    return (low, plain_most, plain)
