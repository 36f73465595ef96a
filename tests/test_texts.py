"""Promise 9: texts of machines and logs."""

import random

from agedcopy.errors import BadLog, BadText
from agedcopy.machines import Machine
from agedcopy.texts import log_text, machine_text, read_log, read_machine
from tests.helpers import ODD, WORN, Case, drawn_log, machines

WORN_TEXT = "states 3\n1 2 2\n0 0 1"
TWELVE = Machine([tuple(range(12))] * 8)
TWELVE_LINE = "0 1 2 3 4 5 6 7 8 9 10 11"
TWELVE_TEXT = "\n".join(["states 12"] + [TWELVE_LINE] * 8)
# Words that are no number below three, or are not written as such a number is.
NO_WORDS = ("3", "-1", "00", "01", "+1", "1.0", "", "a", "0x1", "\u0661", "\u00b2", "1\r", "1\t", "\ufeff1", "-")


class MachineTextTest(Case):
    def test_example(self):
        self.same(machine_text(WORN), WORN_TEXT)
        self.same(read_machine(WORN_TEXT).tables, WORN.tables)

    def test_greatest_and_least(self):
        self.same(machine_text(TWELVE), TWELVE_TEXT)
        self.same(read_machine(text=TWELVE_TEXT) == TWELVE, True)
        self.same(machine_text(machine=Machine([(0,)])), "states 1\n0")
        self.same(read_machine("states 1\n0").tables, ((0,),))

    def test_there_and_back(self):
        for machine in machines(20, 60, 12, 8):
            self.same(read_machine(machine_text(machine)).tables, machine.tables)

    def test_no_string(self):
        for value in (*ODD, b"states 1\n0", [WORN_TEXT], 0):
            if not isinstance(value, str):
                self.fails(BadText, 0, read_machine, value)

    def test_first_line(self):
        for line in ("", "states", "states ", "states 0", "states 13", "states 03", "states  3", " states 3", "states 3 ",
                     "States 3", "states 3 3", "state 3", "states three", "states -3", "states \u0663", "3", "states\t3",
                     "states 3\r", "states 1" + "0" * 5000):
            self.fails(BadText, 1, read_machine, line + "\n1 2 2\n0 0 1")
            self.fails(BadText, 1, read_machine, line)

    def test_lines_that_lack(self):
        self.fails(BadText, 2, read_machine, "states 3")
        self.fails(BadText, 2, read_machine, "states 3\n")
        self.fails(BadText, 1, read_machine, "")

    def test_lines_of_tables(self):
        for word in NO_WORDS:
            for line in (f"{word} 0 0", f"0 {word} 0", f"0 0 {word}"):
                self.fails(BadText, 2, read_machine, f"states 3\n{line}\n0 0")
                self.fails(BadText, 4, read_machine, f"states 3\n0 1 2\n2 1 0\n{line}\n\n")
        for line in ("", "0 1", "0 1 2 0", "0  1 2", " 0 1 2", "0 1 2 ", "0,1,2", "0 1\t2"):
            self.fails(BadText, 3, read_machine, f"states 3\n0 1 2\n{line}")

    def test_lines_one_too_many(self):
        self.fails(BadText, 4, read_machine, WORN_TEXT + "\n")
        self.fails(BadText, 10, read_machine, f"{TWELVE_TEXT}\n{TWELVE_LINE}")
        self.fails(BadText, 10, read_machine, f"{TWELVE_TEXT}\n")
        self.fails(BadText, 10, read_machine, f"{TWELVE_TEXT}\n{TWELVE_LINE}\nx\nx")
        self.fails(BadText, 9, read_machine, f"{TWELVE_TEXT} \n{TWELVE_LINE}")


class LogTextTest(Case):
    def test_plain(self):
        self.same(log_text(WORN, [0, 1, 1]), "0 1 1")
        self.same(log_text(machine=WORN, log=()), "-")
        self.same(log_text(WORN, (1,)), "1")
        self.same(read_log(WORN, "0 1 1"), (0, 1, 1))
        self.same(read_log(machine=WORN, text="-"), ())
        self.same(read_log(TWELVE, "7"), (7,))

    def test_there_and_back(self):
        draw = random.Random(21)
        for machine in machines(21, 40, 3, 8):
            log = drawn_log(draw, machine, 20)
            self.same(read_log(machine, log_text(machine, log)), log)

    def test_no_log(self):
        self.fails(BadLog, -1, log_text, WORN, None)
        self.fails(BadLog, 1, log_text, WORN, (0, 2))
        self.fails(BadLog, -1, log_text, WORN, [0] * 10001)

    def test_no_string(self):
        for value in (*ODD, b"0", ["0"], 0):
            if not isinstance(value, str):
                self.fails(BadText, 0, read_log, WORN, value)

    def test_words(self):
        for word in NO_WORDS + ("2", "0\n", "--"):
            for at in range(3):
                words = ["0", "1", "1"]
                words[at] = word
                self.fails(BadText, at, read_log, WORN, " ".join(words))
                self.fails(BadText, at, read_log, WORN, " ".join(words + ["x"]))
        for text, at in (("", 0), (" ", 0), ("0 ", 1), (" 0", 0), ("0  1", 1), ("- -", 0), ("0 -", 1), ("0\n1", 0),
                         (" -", 0), ("- ", 0)):
            self.fails(BadText, at, read_log, WORN, text)

    def test_longest(self):
        self.same(read_log(WORN, " ".join(["1"] * 10000)), (1,) * 10000)
        self.same(log_text(WORN, [1] * 10000), " ".join(["1"] * 10000))
        self.fails(BadText, 10000, read_log, WORN, " ".join(["1"] * 10001))
        self.fails(BadText, 10000, read_log, WORN, " ".join(["1"] * 10000) + " ")
        self.fails(BadText, 10000, read_log, WORN, " ".join(["1"] * 10000 + ["x", "x"]))
        self.fails(BadText, 9999, read_log, WORN, " ".join(["1"] * 9999 + ["2", "1"]))
