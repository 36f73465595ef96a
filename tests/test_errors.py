"""Promise 4: the errors."""

import importlib
import inspect

from agedcopy import errors
from agedcopy.desk import Desk
from agedcopy.machines import Machine
from agedcopy.notes import LogNote, note_of
from agedcopy.pages import Pages
from agedcopy.store import Store
from tests.helpers import ODD, TURNS, Case
from tests.test_interface import CALLS

NAMES = {"BadMachine": "at", "BadLog": "at", "BadCopy": "at", "BadText": "at", "Refused": "at", "TooGreat": "most"}


class ErrorTest(Case):
    def test_base(self):
        self.assertIs(errors.AgeError.__bases__[0], ValueError)
        self.assertEqual(len(errors.AgeError.__bases__), 1)

    def test_direct_subclasses(self):
        for name in NAMES:
            self.assertEqual(getattr(errors, name).__bases__, (errors.AgeError,), name)

    def test_key_errors(self):
        self.assertEqual(errors.NoState.__bases__, (KeyError,))
        self.assertEqual(errors.NoDeed.__bases__, (KeyError,))

    def test_attributes_by_position_and_by_name(self):
        for name, attribute in (*NAMES.items(), ("NoState", "state"), ("NoDeed", "deed")):
            for value in (*ODD, {"any": 1}, object(), 10 ** 6000, Machine([(0,)])):
                error = getattr(errors, name)
                self.assertIs(getattr(error(value), attribute), value)
                self.assertIs(getattr(error(**{attribute: value}), attribute), value)

    def test_each_is_caught_as_itself_alone(self):
        for name in NAMES:
            for other in NAMES:
                is_one = issubclass(getattr(errors, name), getattr(errors, other))
                self.assertEqual(is_one, name == other)

    def test_kept_argument_is_the_very_one(self):
        value = [3, 3]
        with self.assertRaises(errors.Refused) as caught:
            raise errors.Refused(value)
        self.assertIs(caught.exception.at, value)
        value.append(4)
        self.assertEqual(caught.exception.at, [3, 3, 4])


# What each parameter may be, and by function what else is taken.
GOOD = {"machine": TURNS, "log": (0, 0), "state": 0, "age": 1, "deed": 1, "mark": 0, "number": 1, "width": 2,
        "bound": 2, "modulus": 3, "length": 9, "marking": [(0, 0, 0), (1, 1, 1), (2, 2, 2)], "copies": [(0, 1)],
        "value": None, "starts": (0, 2), "kept": (0, 1, 2), "states": (0, 1), "view": (0, 0, 0), "pairs": [(0, 1)],
        "text": "0 1", "tables": [(0,)], "one": 0, "other": 1, "most": 100,
        "pages": Pages(TURNS, [(0, 0), (0, 1), (1, 0)]), "cell": 1, "cells": [(0,), (1,), (2,)], "word": (0, 1, 1),
        "order": (1, 0), "ordered": True, "gap": 2, "living": 3, "marks": 2}
TWO_AGES = ("age_word", "parting_starts", "is_unlike_now")
TWO_COPIES = ("pair_ages", "pair_ends", "newer_ways", "fresh_ways", "pair_paper", "order_paper", "fresh_paper",
              "replica_holds")
NOTES = {"one": LogNote(TURNS), "other": note_of(TURNS, (0,))}
OTHERS = {"check_log": {"value": (0, 0)}, "unlike_step": {"value": (0, 0, 0)}, "check_view": {"value": (0, 0, 0)},
          "parting_state": {"one": (0,), "other": (1,)}, "read_machine": {"text": "states 1\n0"},
          "beside_machines": {"one": TURNS, "other": TURNS}, "together_machines": {"one": TURNS, "other": TURNS},
          "part_machine": {"states": (0, 1, 2)}, "read_age": {"starts": None}, "read_copy": {"starts": None},
          "torn_states": {"kept": [(0, 1, 1)]}, "told_gaps": {"most": 3}, "Desk": {"text": "states 1\n0"},
          "greatest_list": {"marking": (0, 1)}, "parting_log": NOTES, "is_alike": NOTES,
          "orbit_sizes": {"machine": Machine([(1, 0)])},
          **{name: {"machine": Machine([(1, 0)])} for name in ("one_rows", "one_marks", "one_wrap")}}
# By parameter a wrong value, the error and what it keeps; by function where the document tells it otherwise.
WRONG = {"log": ((0, 3), errors.BadLog, 1), "state": (3, errors.NoState, 3), "deed": (2, errors.NoDeed, 2),
         "age": (3, errors.Refused, 3), "starts": ((), errors.Refused, ()), "kept": ((3,), errors.Refused, (3,)),
         "bound": (0, errors.Refused, 0), "width": (0, errors.Refused, 0), "number": (0, errors.Refused, 0),
         "modulus": (201, errors.Refused, 201), "length": (401, errors.Refused, 401), "mark": (9, errors.Refused, 9),
         "states": ((), errors.Refused, ()), "marking": ([], errors.Refused, []), "copies": ([0], errors.BadCopy, [0]),
         "view": ((1, 0, 0), errors.Refused, (1, 0, 0)), "pairs": ([0], errors.Refused, [0]),
         "cell": (2, errors.Refused, 2), "cells": ([], errors.Refused, []), "word": ((), errors.Refused, ()),
         "order": ((1, 1), errors.Refused, (1, 1)), "gap": (13, errors.Refused, 13),
         "living": (6, errors.Refused, 6), "marks": (0, errors.Refused, 0)}
ELSEWHERE = {("parting_state", "one"): ((2,), errors.BadLog, 0), ("parting_state", "other"): ((0, 2), errors.BadLog, 1),
             ("read_log", "text"): ("0 2", errors.BadText, 1),
             **{(name, word): (3, errors.NoState, 3) for name in ("gap_ages", "gap_ends") for word in ("one", "other")},
             ("told_gaps", "most"): (13, errors.Refused, 13), ("Desk", "text"): ("states 1", errors.BadText, 2),
             ("read_machine", "text"): ("states 1\n1", errors.BadText, 2),
             ("Machine", "tables"): ([(0,), (1,)], errors.BadMachine, 1),
             ("check_log", "value"): ((9,), errors.BadLog, 0),
             ("check_starts", "value"): ((), errors.Refused, ()),
             ("check_view", "value"): ((1,), errors.Refused, (1,)),
             ("unlike_step", "value"): ((1,), errors.Refused, (1,)),
             ("note_number", "most"): (2, errors.TooGreat, 2), ("fewest_kept", "most"): (2, errors.TooGreat, 2),
             ("parting_log", "other"): (LogNote(Machine([(0,)])), errors.Refused, None),
             ("is_alike", "other"): (LogNote(Machine([(0,)])), errors.Refused, None),
             **{(name, "one"): (3, errors.Refused, 3) for name in TWO_AGES},
             **{(name, "other"): (0, errors.Refused, 0) for name in TWO_AGES},
             **{(name, word): (3, errors.NoState, 3) for name in TWO_COPIES for word in ("one", "other")}}


class RaisedTest(Case):
    def test_each_where_the_document_says_so(self):
        seen = {}
        for module, calls in CALLS.items():
            for name in (call.partition("(")[0] for call in calls):
                if "." not in name:
                    seen[name] = self.check_call(getattr(importlib.import_module(f"agedcopy.{module}"), name), name)
        self.assertGreater(sum(seen.values()), 220)

    def check_call(self, call, name):
        """The call itself is right, and each wrong argument alone raises what is told of it."""
        good = {**GOOD, **OTHERS.get(name, {})}
        named = {word: good[word] for word in inspect.signature(call).parameters}
        call(**named)
        checked = 0
        for word in named:
            if (name, word) in ELSEWHERE or word in WRONG:
                value, error, kept = ELSEWHERE.get((name, word)) or WRONG[word]
                with self.assertRaises(error) as caught:
                    call(**{**named, word: value})
                self.assertIs(type(caught.exception), error)
                field = {"NoState": "state", "NoDeed": "deed", "TooGreat": "most"}.get(error.__name__, "at")
                self.same(vars(caught.exception), {field: value if kept is None else kept})
                checked += 1
        return checked

    def test_in_the_methods_of_a_note(self):
        note = note_of(TURNS, (0,), starts=[0])
        self.fails(errors.NoDeed, 2, note.put, 2)
        self.fails(errors.NoState, 3, note.mark, 3)
        self.fails(errors.Refused, 0, note.mark, 0)
        self.fails(errors.NoState, 3, note.read, 3, 0)
        self.fails(errors.BadCopy, 1, note.read, 0, 1)
        self.fails(errors.BadLog, 0, note.read, 0, 0, (2,))

    def test_in_the_methods_of_a_store(self):
        store = Store(TURNS, starts=[0])
        store.keep(1, 0)
        self.fails(errors.NoDeed, 2, store.do, 2)
        self.fails(errors.Refused, 1, store.keep, 1, 0)
        self.fails(errors.NoState, 3, store.keep, 2, 3)
        self.fails(errors.Refused, 1, store.keep, 2, 1)
        self.fails(errors.NoState, 3, store.marks_on, 3)
        self.fails(errors.Refused, 1, store.take_back, 1)
        for call in (store.copy_on, store.give_up, store.read, store.renew, store.starts_of):
            self.fails(errors.Refused, 2, call, 2)
        self.fails(errors.Refused, 2, store.carry, 2, 3)
        self.fails(errors.Refused, 1000, store.carry, 1, 1000)
        self.fails(errors.BadText, 0, Desk("states 1\n0").say, "do")

    def test_machines_that_are_refused(self):
        for module, name in (("onedeed", "one_rows"), ("onedeed", "one_marks"), ("onedeed", "one_wrap"),
                             ("onedeed", "orbit_sizes")):
            self.fails(errors.Refused, TURNS, getattr(importlib.import_module(f"agedcopy.{module}"), name), TURNS)
        nine = Machine([(0,) * 9])
        for name in ("most_marks", "first_lengths"):
            self.fails(errors.TooGreat, 8, getattr(importlib.import_module("agedcopy.tokens"), name), nine, 0)
