"""Walks by deeds from thing to thing, those of the first logs first."""

from agedcopy.errors import TooGreat


def fresh_groups(group, steps, came):
    """By deed, ascending, the things to which the things of a group lead and no walk has led yet; told in `came`."""
    rows = {}
    for thing in group:
        for deed, later in steps(thing):
            rows.setdefault(deed, []).append((thing, later))
    found = []
    for deed in sorted(rows):
        fresh = []
        for thing, later in rows[deed]:
            if later not in came:
                came[later] = (thing, deed)
                fresh.append(later)
        if fresh != []:
            found.append(fresh)
    return found


def first_walks(firsts, steps, most=None):
    """The things to which walks lead from the first ones, in the order of the first logs that lead there.

    `steps` tells the pairs (deed, thing) that follow a thing. By thing it is told where it came from: the thing a deed
    earlier and that deed, None for a first one. TooGreat if there are more than `most`.
    """
    came = {thing: None for thing in firsts}
    # Things to which one log leads first are a group; groups stand in the order of these logs.
    groups = [list(came)]
    at = 0
    while at < len(groups):
        if most is not None and len(came) > most:
            raise TooGreat(most)
        groups.extend(fresh_groups(groups[at], steps, came))
        at += 1
    return came


def things_to(came, thing):
    """The things along the first walk to a thing, the first one and this one too."""
    things = [thing]
    while came[thing] is not None:
        thing, _ = came[thing]
        things.append(thing)
    return things[::-1]


def log_to(came, thing):
    """The deeds of the first walk to a thing."""
    deeds = []
    while came[thing] is not None:
        thing, deed = came[thing]
        deeds.append(deed)
    return tuple(deeds[::-1])
