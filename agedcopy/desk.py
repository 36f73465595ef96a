"""A desk: a store that is led by lines of words."""

from agedcopy.errors import AgeError, BadText, NoDeed, NoState
from agedcopy.store import Store
from agedcopy.texts import numbers_text, read_machine

MOST_FIGURES = 9
FIGURES = "0123456789"


def some_text(numbers):
    """Some numbers with one blank between, `-` for none."""
    if len(numbers) == 0:
        return "-"
    return numbers_text(numbers)


def do_deed(store, numbers):
    return str(store.do(numbers[0]))


def keep_copy(store, numbers):
    return str(store.keep(numbers[0], numbers[1]))


def renew_copy(store, numbers):
    return str(store.renew(numbers[0]))


def give_copy(store, numbers):
    store.give_up(numbers[0])
    return "ok"


def carry_copy(store, numbers):
    store.carry(numbers[0], numbers[1])
    return "ok"


def tell_copy(store, numbers):
    return some_text(store.copy_on(numbers[0]))


def read_disk(store, numbers):
    return str(store.read(numbers[0]))


def tell_starts(store, numbers):
    return some_text(store.starts_of(numbers[0]))


def tell_marks(store, numbers):
    return some_text(store.marks_on(numbers[0]))


def take_deeds_back(store, numbers):
    return some_text(store.take_back(numbers[0]))


def tell_age(store, _):
    return str(store.age)


def tell_cut(store, _):
    return str(store.cut)


def tell_log(store, _):
    return some_text(store.log)


def tell_disks(store, _):
    return some_text(store.disks())


def tell_need(store, _):
    many = store.needed()
    return "none" if many is None else str(many)


def trim_log(store, _):
    return str(store.trim())


def tell_came(store, _):
    triples = store.came_to()
    if triples == ():
        return "-"
    return ", ".join([numbers_text(triple) for triple in triples])


# By first word of a line what is done, and how many numbers follow it.
ACTIONS = {"do": do_deed, "keep": keep_copy, "renew": renew_copy, "give": give_copy, "carry": carry_copy,
           "copy": tell_copy, "read": read_disk, "starts": tell_starts, "marks": tell_marks, "back": take_deeds_back,
           "age": tell_age, "cut": tell_cut, "log": tell_log, "disks": tell_disks, "need": tell_need,
           "trim": trim_log, "came": tell_came}
FOLLOWING = {"do": 1, "keep": 2, "renew": 1, "give": 1, "carry": 2, "copy": 1, "read": 1, "starts": 1, "marks": 1,
             "back": 1, "age": 0, "cut": 0, "log": 0, "disks": 0, "need": 0, "trim": 0, "came": 0}


def is_number_word(word):
    """Whether a word is a number of at most nine figures, without leading zeros."""
    if not 1 <= len(word) <= MOST_FIGURES or (word[0] == "0" and word != "0"):
        return False
    return all([sign in FIGURES for sign in word])


def check_line(value):
    """The words of a line; BadText for any value that has none of the forms."""
    if not isinstance(value, str):
        raise BadText(0)
    words = value.split(" ")
    if words[0] not in FOLLOWING or len(words) != FOLLOWING[words[0]] + 1:
        raise BadText(0)
    if not all([is_number_word(word) for word in words[1:]]):
        raise BadText(0)
    return words


class Desk:
    """A store of the machine that a text tells, all states being starts."""

    def __init__(self, text):
        self.store = Store(read_machine(text))

    def say(self, line):
        """Does what a line says; returns the answer."""
        words = check_line(line)
        action = ACTIONS[words[0]]
        numbers = [int(word) for word in words[1:]]
        try:
            return action(self.store, numbers)
        except (AgeError, NoState, NoDeed):
            return "refused"
