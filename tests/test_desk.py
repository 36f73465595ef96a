"""Promise 56: a desk that is led by lines."""

import random

from agedcopy.desk import Desk
from agedcopy.errors import AgeError, BadText, NoDeed, NoState
from agedcopy.machines import Machine
from agedcopy.store import Store
from agedcopy.texts import machine_text
from tests.helpers import ODD, Case, machines

RING = "states 3\n1 2 0"
WORDS = {"do": 1, "keep": 2, "renew": 1, "give": 1, "carry": 2, "copy": 1, "read": 1, "starts": 1, "marks": 1,
         "back": 1, "age": 0, "cut": 0, "log": 0, "disks": 0, "need": 0, "trim": 0, "came": 0}


def numbers(values):
    return " ".join(map(str, values)) or "-"


def answer(store, word, told):
    """What a desk answers, told by a store of its own."""
    calls = {"do": store.do, "keep": store.keep, "renew": store.renew, "give": store.give_up, "carry": store.carry,
             "copy": store.copy_on, "read": store.read, "starts": store.starts_of, "marks": store.marks_on,
             "back": store.take_back, "disks": store.disks, "need": store.needed, "trim": store.trim,
             "came": store.came_to, "age": lambda: store.age, "cut": lambda: store.cut, "log": lambda: store.log}
    try:
        found = calls[word](*told)
    except (AgeError, NoDeed, NoState):
        return "refused"
    if word in ("give", "carry"):
        return "ok"
    if word == "came":
        return ", ".join(map(numbers, found)) or "-"
    if found is None:
        return "none"
    return numbers(found) if isinstance(found, tuple) else str(found)


class DeskTest(Case):
    def say(self, desk, *lines):
        return [desk.say(line) for line in lines]

    def test_example(self):
        desk = Desk("states 2\n1 1")
        self.same(self.say(desk, "keep 3 0", "do 0", "keep 4 0", "keep 4 1", "read 3", "need", "starts 4", "came"),
                  ["0", "1", "refused", "0", "1", "1", "0 1", "0 0 1, 1 0 1"])

    def test_all_words(self):
        desk = Desk(text=RING)
        self.same(self.say(desk, "age", "cut", "log", "disks", "need", "came", "marks 0", "trim", "back 0"),
                  ["0", "0", "-", "-", "0", "-", "-", "0", "-"])
        self.same(self.say(desk, "keep 7 0", "do 0", "keep 8 0", "do 0", "do 0", "keep 9 0"),
                  ["0", "1", "1", "2", "3", "0"])
        self.same(self.say(desk, "age", "log", "disks", "copy 8", "read 8", "starts 8", "starts 7", "marks 0",
                           "marks 1"), ["3", "0 0 0", "7 8 9", "0 1", "2", "2", "0", "0 1", "-"])
        self.same(self.say(desk, "came", "need", "trim", "cut", "log"), ["0 0 0, 0 1 2", "2", "2", "1", "0 0"])
        self.same(self.say(desk, "back 1", "need", "disks", "carry 8 999", "give 8", "disks", "renew 999", "copy 999"),
                  ["9", "none", "7 8", "ok", "ok", "7 999", "2", "1 2"])
        self.same(self.say(desk, "do 0", "back 1", "back 2", "back 1", "disks", "need", "age"),
                  ["3", "-", "refused", "999", "7", "none", "1"])

    def test_store(self):
        desk = Desk(RING)
        self.assertIs(type(desk.store), Store)
        self.assertEqual(desk.store.machine, Machine([(1, 2, 0)]))
        desk.say("do 0")
        desk.say("keep 5 1")
        self.same((desk.store.age, desk.store.log, desk.store.disks(), desk.store.starts_of(5)), (1, (0,), (5,), (0,)))

    def test_refused(self):
        desk = Desk("states 2\n1 1\n0 1")
        self.same(self.say(desk, "keep 0 1", "do 0"), ["0", "1"])
        before = answer(desk.store, "came", ()), desk.store.age, desk.store.disks()
        for line in ("do 2", "do 999999999", "keep 0 1", "keep 1000 1", "keep 1 2", "keep 1 0", "renew 1", "give 1",
                     "give 1000", "carry 1 2", "carry 0 0", "carry 0 1000", "copy 1", "read 1", "starts 1",
                     "marks 2", "back 2", "back 999999999"):
            self.same(desk.say(line), "refused")
        self.same((answer(desk.store, "came", ()), desk.store.age, desk.store.disks()), before)

    def test_lines_that_have_no_form(self):
        desk = Desk(RING)
        desk.say("keep 0 0")
        lines = ["", " ", "do", "do ", "do  0", " do 0", "do 0 ", "do 0 0", "do\t0", "do 0\n", "Do 0", "DO 0", "undo 0",
                 "do -1", "do +1", "do 00", "do 01", "do 1000000000", "do 0x1", "do 1_0", "do 1.0", "do a", "do \u0661",
                 "do \u00b2", "do \u0967", "0", "keep 0", "keep 0 0 0", "keep 0,0", "age 0", "age ", "cut 1", "log -",
                 "disks 1", "need 1", "trim 0", "came 0", "marks", "back", "back -", "starts", "ok", "refused", "none",
                 "-", "give_up 0", "take_back 1", "copy_on 0", "do 0000000001", "age\n", "\u00a0age", "keep 1 00"]
        for line in [*lines, *ODD, 0, ("age",), ["age"], b"age"]:
            self.fails(BadText, 0, desk.say, line)
        self.same(self.say(desk, "age", "disks", "log"), ["0", "0", "-"])

    def test_numbers_of_nine_figures(self):
        desk = Desk("states 1\n0")
        self.same(self.say(desk, "do 999999999", "do 0", "keep 999 0", "keep 100000000 0"),
                  ["refused", "1", "0", "refused"])
        self.fails(BadText, 0, desk.say, "keep 0999 0")

    def test_arguments_are_counted_by_word(self):
        for word, many in WORDS.items():
            desk = Desk(RING)
            desk.say("keep 0 0")
            for number in range(4):
                line = " ".join([word, *["1"] * number])
                if number == many:
                    self.assertIsInstance(desk.say(line=line), str)
                else:
                    self.fails(BadText, 0, desk.say, line)

    def test_machine_texts(self):
        for value, at in ((None, 0), (7, 0), ([RING], 0), ("", 1), ("states 3", 2), ("states 3\n1 2 3", 2),
                          ("states 3\n1 2 0\n", 3), ("states 13\n0", 1), ("states 1\n0\n0\n0\n0\n0\n0\n0\n0\n0", 10)):
            self.fails(BadText, at, Desk, value)

    def test_drawn(self):
        draw = random.Random(300)
        seen = {}
        for machine in machines(301, 400, 4, 3):
            desk, store = Desk(machine_text(machine)), Store(machine)
            for _ in range(60):
                word = draw.choice([*WORDS, "do", "do", "keep", "keep", "keep"])
                told = [draw.randint(0, 3) for _ in range(WORDS[word])]
                found = desk.say(" ".join([word, *map(str, told)]))
                self.same(found, answer(store, word, told))
                seen.setdefault(word, set()).add(found)
                self.same(desk.store.came_to(), store.came_to())
        self.assertEqual(set(seen), set(WORDS))
        for word, many in WORDS.items():
            self.assertGreater(len(seen[word]), 1)
            if many:
                self.assertIn("refused", seen[word])
        self.assertIn("none", seen["need"])
