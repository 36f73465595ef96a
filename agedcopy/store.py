"""A store: hears deeds, keeps copies on disks without their ages, and keeps as much of the log as they need."""

from agedcopy.errors import Refused
from agedcopy.kinds import is_below
from agedcopy.machines import check_starts, check_state
from agedcopy.moments import first_moment, mark_now, next_moment, place_of
from agedcopy.tails import ends_by_age

MOST_DISKS = 1000


def least_tail(ends, state, now):
    """The fewest last deeds of a log that lead a state to the one asked for, told the ends by age; None if none do."""
    for many, row in enumerate(reversed(ends)):
        if row[state] == now:
            return many
    return None


class Store:
    """Disks with copies of a thing whose deeds are heard; each copy lies there with its mark."""

    def __init__(self, machine, *, starts=None):
        self._starts = check_starts(machine, starts)
        self.machine = machine
        self.age = 0
        self.cut = 0
        self.log = ()
        # By disk (state, mark, age of the copy). The age serves to take back deeds only: it is not told.
        self._copies = {}
        # The moments at all ages from the cut on: so deeds can be taken back.
        self._moments = [first_moment(machine, self._starts)]

    def _check_copy(self, value):
        """Raises Refused for any value that is no disk with a copy."""
        if not is_below(value, MOST_DISKS) or value not in self._copies:
            raise Refused(value)

    def _check_empty(self, value):
        """Raises Refused for any value that is no empty disk."""
        if not is_below(value, MOST_DISKS) or value in self._copies:
            raise Refused(value)

    def _put_copy(self, disk, state):
        """A copy of a possible state is kept now on a disk; returns its mark."""
        mark = mark_now(self._moments[-1], state)
        self._copies[disk] = (state, mark, self.age)
        return mark

    def do(self, deed):
        """A deed is heard; returns the age."""
        self._moments.append(next_moment(self.machine, self._starts, self._moments[-1], deed))
        self.log = self.log + (deed,)
        self.age += 1
        return self.age

    def take_back(self, many):
        """The last deeds of the log, so many, never happened; returns the disks that become empty."""
        if not is_below(many, len(self.log) + 1):
            raise Refused(many)
        self.age -= many
        self.log = self.log[:len(self.log) - many]
        self._moments = self._moments[:len(self.log) + 1]
        gone = [disk for disk, copy in sorted(self._copies.items()) if copy[2] > self.age]
        for disk in gone:
            del self._copies[disk]
        return tuple(gone)

    def needed(self):
        """The fewest last deeds of the log by which each copy can be redone, None if all of it is too short."""
        ends = ends_by_age(self.machine, self.log)
        tails = [least_tail(ends, state, now) for state, _, now in self.came_to()]
        if None in tails:
            return None
        return max(tails, default=0)

    def trim(self):
        """Cuts the log, so that only the needed deeds stay; returns how many do."""
        many = self.needed()
        if many is None:
            many = len(self.log)
        self.cut = self.age - many
        self.log = self.log[len(self.log) - many:]
        self._moments = self._moments[len(self._moments) - many - 1:]
        return many

    def disks(self):
        """The ascending disks with copies."""
        return tuple(sorted(self._copies))

    def keep(self, disk, state):
        """A copy of a state is kept now on an empty disk; returns its mark."""
        self._check_empty(disk)
        check_state(self.machine, state)
        if state not in self._moments[-1][0]:
            raise Refused(state)
        return self._put_copy(disk, state)

    def give_up(self, disk):
        """The copy on a disk is given up."""
        self._check_copy(disk)
        del self._copies[disk]

    def copy_on(self, disk):
        """(state, mark) of the copy on a disk."""
        self._check_copy(disk)
        return self._copies[disk][:2]

    def carry(self, disk, other):
        """The copy on a disk is put on an empty disk, too."""
        self._check_copy(disk)
        self._check_empty(other)
        self._copies[other] = self._copies[disk]

    def renew(self, disk):
        """What is read of the copy on a disk is kept now in its place; returns the mark."""
        return self._put_copy(disk, self.read(disk))

    def read(self, disk):
        """The state now, told by the copy on a disk."""
        state, mark = self.copy_on(disk)
        return place_of(self._moments[-1], state, mark)

    def starts_of(self, disk):
        """The ascending starts that show the copy's state at some age of its mark's path."""
        state, mark = self.copy_on(disk)
        _, _, _, shown = self._moments[-1]
        return shown[state][mark]

    def marks_on(self, state):
        """The ascending marks that copies of a state on disks have."""
        check_state(self.machine, state)
        copies = list(self._copies.values())
        return tuple(sorted(set([mark for told, mark, _ in copies if told == state])))

    def came_to(self):
        """The ascending unlike (state, mark, state now) of the copies on disks."""
        return tuple(sorted(set([self.copy_on(disk) + (self.read(disk),) for disk in self.disks()])))
