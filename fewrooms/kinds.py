"""What kind a thing is, asked of anything at all."""


# True and False count as whole numbers for Python, but not here.
def is_number(thing):
    return isinstance(thing, int) and not isinstance(thing, bool)


# Whether a thing is a number from nought to below the end.
def is_below(thing, end):
    return is_number(thing) and 0 <= thing < end


# Whether a thing is a rising tuple of unlike numbers, from nought to below the end.
def is_rising(thing, end):
    if not isinstance(thing, tuple):
        return False
    least = 0
    for number in thing:
        if not is_below(number, end) or number < least:
            return False
        least = number + 1
    return True


def is_pair(thing):
    return isinstance(thing, tuple) and len(thing) == 2


def is_stand(net, rooms, thing):
    return is_rising(thing, len(net)) and len(thing) <= rooms


# Whether a thing is a list of moves, let by or not, each a pair of one of the words and a work.
def is_plan(net, words, thing):
    if not isinstance(thing, list):
        return False
    return all([is_pair(move) and move[0] in words and is_below(move[1], len(net)) for move in thing])


# Whether a thing is a list of pairs of anything and a number from nought.
def is_numbered(thing):
    if not isinstance(thing, list):
        return False
    return all([is_pair(pair) and is_number(pair[1]) and pair[1] >= 0 for pair in thing])
