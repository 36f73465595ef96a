"""Deeds struck from a log that is kept for told copies: which places of the log are enough."""

from agedcopy.errors import TooGreat
from agedcopy.kinds import is_ascending
from agedcopy.machines import check_log
from agedcopy.tails import check_copies, ends_by_age


def struck_ends(machine, log, places):
    """By age, then by state, where the deeds at some places, from that age on, lead the state."""
    stay = {place: True for place in places}
    ends = tuple(range(machine.states))
    rows = [ends]
    for place in range(len(log) - 1, -1, -1):
        if place in stay:
            ends = tuple([ends[later] for later in machine.tables[log[place]]])
        rows.append(ends)
    return rows[::-1]


def kept_right(machine, log, copies, value):
    """Whether any value is a sequence of ascending places that is enough for some copies."""
    log = check_log(machine, log)
    check_copies(machine, log, copies)
    if not is_ascending(value, len(log)):
        return False
    ends = ends_by_age(machine, log)
    struck = struck_ends(machine, log, value)
    return all([struck[age][state] == ends[age][state] for state, age in copies])


def told_ends(machine, log, copies):
    """By age the copies that were kept then: as pairs of their state and what the deeds from there on lead it to."""
    ends = ends_by_age(machine, log)
    found = [{} for _ in ends]
    for state, age in copies:
        found[age][state] = ends[age][state]
    return [list(row.items()) for row in found]


def place_key(places):
    """By what lots of places are compared: fewer places first, then the lesser ones."""
    return (len(places), places)


def earlier_lots(best, place, table, told):
    """By table what lots from one place earlier on can do that is right for the copies told: the best such lot.

    `best` tells the same of the lots behind this place.
    """
    found = {}
    for led, lot in best.items():
        # A deed that stays is done ahead of all that the lot does.
        longer = tuple([led[later] for later in table])
        for made, places in ((led, lot), (longer, (place,) + lot)):
            if all([made[state] == end for state, end in told]):
                if made not in found or place_key(places) < place_key(found[made]):
                    found[made] = places
    return found


def fewest_kept(machine, log, copies, *, most=20000):
    """Of the lots of places that are enough for some copies and have the fewest places the least one."""
    log = check_log(machine, log)
    check_copies(machine, log, copies)
    told = told_ends(machine, log, copies)
    best = {tuple(range(machine.states)): ()}
    many = len(best)
    for age in range(len(log) - 1, -1, -1):
        best = earlier_lots(best, age, machine.tables[log[age]], told[age])
        many += len(best)
        if many > most:
            raise TooGreat(most)
    return min(list(best.values()), key=place_key)
