"""Promises 1 and 2 over the whole program: arguments stay as they are, what is returned is made of tuples."""

import copy
import importlib
import inspect

from agedcopy.desk import Desk
from agedcopy.machines import Machine
from agedcopy.marks import Marker
from agedcopy.notes import LogNote
from agedcopy.pages import Pages
from agedcopy.store import Store
from tests.helpers import RING, TURNS, Case
from tests.test_errors import GOOD, OTHERS
from tests.test_interface import CALLS


def as_kind(kind, value):
    """A value with all its sequences of one kind."""
    if isinstance(value, (list, tuple)):
        return kind(as_kind(kind, part) for part in value)
    return value


def is_of_tuples(value):
    """Whether a value that is returned holds no list, and no part of another kind than those described."""
    if isinstance(value, tuple):
        return all(map(is_of_tuples, value))
    return value is None or type(value) in (int, bool, str, Machine)


class WholeTest(Case):
    def functions(self):
        for module, calls in CALLS.items():
            for name in (call.partition("(")[0] for call in calls):
                found = getattr(importlib.import_module(f"agedcopy.{module}"), name.partition(".")[0])
                if "." not in name and not inspect.isclass(found):
                    good = {**GOOD, **OTHERS.get(name, {})}
                    yield name, found, {word: good[word] for word in inspect.signature(found).parameters}

    def equal(self, one, other):
        if isinstance(one, (LogNote, Machine)):
            self.assertEqual(one, other)
        else:
            self.assertEqual(self.plain(one), self.plain(other))

    def plain(self, value):
        """A value as text, machines in it told by their tables."""
        if isinstance(value, tuple):
            return tuple(map(self.plain, value))
        return repr(value.tables if isinstance(value, Machine) else value)

    def test_calls_by_position_and_by_names(self):
        checked = 0
        for _, call, named in self.functions():
            signature = inspect.signature(call)
            ahead = [named[word] for word, told in signature.parameters.items() if told.kind != told.KEYWORD_ONLY]
            behind = {word: named[word] for word, told in signature.parameters.items() if told.kind == told.KEYWORD_ONLY}
            self.equal(call(*ahead, **behind), call(**named))
            checked += 1
        self.assertGreater(checked, 100)

    def test_lists_do_for_tuples_and_stay_as_they_are(self):
        for name, call, named in self.functions():
            told = {word: as_kind(list, value) for word, value in named.items()}
            before = copy.deepcopy({word: value for word, value in told.items() if isinstance(value, list)})
            found = call(**told)
            self.equal(found, call(**{word: as_kind(tuple, value) for word, value in named.items()}))
            self.assertEqual({word: told[word] for word in before}, before)
            if name != "note_of":
                self.assertTrue(is_of_tuples(found), name)

    def test_a_call_again_returns_the_same(self):
        first = [(call, named, call(**named)) for _, call, named in self.functions()]
        for call, named, found in reversed(first):
            self.equal(call(**named), found)

    def test_attributes_of_objects(self):
        pages = Pages(TURNS, [[0], [1], [2]])
        note, store, desk = LogNote(TURNS), Store(TURNS), Desk("states 1\n0")
        marker = Marker(TURNS, bound=3)
        for value in (TURNS.tables, TURNS.deeds, TURNS.states, pages.machine, pages.cells, pages.width, note.machine,
                      note.age, note.possible, note.rows, store.machine, store.age, store.cut, store.log,
                      marker.machine, marker.bound, marker.age, desk.store.log):
            self.assertTrue(is_of_tuples(value))

    def test_what_methods_return(self):
        note, store, marker = LogNote(TURNS), Store(TURNS), Marker(TURNS)
        for value in (note.put(0), note.mark(0), note.read(0, 0, [0, 1]), marker.keep(), marker.put(deed=1),
                      marker.marks_at(state=0), store.keep(disk=3, state=1), store.do(deed=0), store.disks(),
                      store.copy_on(3), store.marks_on(1), store.came_to(), store.starts_of(3), store.take_back(1),
                      store.needed(), store.trim(), note.rows, note.possible, store.log):
            self.assertTrue(is_of_tuples(value))

    def test_equal_objects(self):
        """Objects with a described == are equal to nothing of another class; stores and the like to themselves."""
        things = [TURNS, Pages(TURNS, [[0], [1], [2]]), LogNote(TURNS), Store(TURNS), Marker(TURNS), TURNS.tables, 0, None]
        for at, one in enumerate(things):
            for number, other in enumerate(things):
                self.assertEqual(one == other, at == number)
        self.assertEqual(Machine([[1, 2, 3, 0]]), RING)
        self.assertEqual(LogNote(RING), LogNote(Machine(RING.tables), starts=[0, 1, 2, 3]))
