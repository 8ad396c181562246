"""What kind a thing is, asked of anything at all."""


# True and False count as whole numbers for Python, but not here.
def is_number(thing):
    return isinstance(thing, int) and not isinstance(thing, bool)


# Whether a thing is a rising tuple of unlike numbers, from nought to below the end.
def is_rising(thing, end):
    if not isinstance(thing, tuple):
        return False
    least = 0
    for number in thing:
        if not is_number(number) or number < least or number >= end:
            return False
        least = number + 1
    return True
