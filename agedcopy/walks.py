"""Walks by deeds from thing to thing, those of the first logs first."""

from agedcopy.errors import TooGreat


def first_walks(firsts, steps, most=None):
    """The things to which walks lead from the first ones, in the order in which the first logs lead there.

    `steps` tells, by deed ascending, the pairs (deed, thing) that follow a thing. By thing it is told where it came
    from: the thing a deed earlier and that deed, None for a first one. TooGreat if there are more than `most`.
    """
    came = {thing: None for thing in firsts}
    queue = list(came)
    at = 0
    while at < len(queue):
        if most is not None and len(queue) > most:
            raise TooGreat(most)
        thing = queue[at]
        for deed, later in steps(thing):
            if later not in came:
                came[later] = (thing, deed)
                queue.append(later)
        at += 1
    return came


def things_to(came, thing):
    """The things along the first walk to a thing, the first one and this one too."""
    things = [thing]
    while came[thing] is not None:
        thing, _ = came[thing]
        things.append(thing)
    return things[::-1]


def log_to(came, thing):
    """The deeds of the first walk to a thing."""
    deeds = []
    while came[thing] is not None:
        thing, deed = came[thing]
        deeds.append(deed)
    return tuple(deeds[::-1])
