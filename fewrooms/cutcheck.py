"""Whether a thing shows that a work wants so many rooms at least."""

from fewrooms.paths import all_paths, is_path, shows_sides


# Whether anything is a path to the work, together with so many sides of it at least.
def shows_pair(net, work, many, thing):
    if not isinstance(thing, tuple) or len(thing) != 2:
        return False
    if not is_path(net, thing[0]) or thing[0][-1] != work:
        return False
    return shows_sides(net, thing[0], thing[1]) and len(thing[1]) >= many


def shows_cut(net, work, rooms, thing):
    paths = all_paths(net, work)
    if not isinstance(thing, list) or len(thing) != len(paths):
        return False
    if not net[work] and rooms != 1:
        return False
    seen = {}
    for pair in thing:
        if not shows_pair(net, work, rooms - 2, pair) or pair[0] in seen:
            return False
        seen[pair[0]] = True
    # As many unlike paths to the work as there are: so none is left out.
    return True
