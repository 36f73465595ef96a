"""Promises 1 and 2: names, arguments and where each thing is defined."""

import importlib
import inspect

from tests.helpers import Case

# By module the functions, classes and methods of the interface, as they are called.
CALLS = {
    "machines": ["Machine(tables)", "check_log(machine, value)", "check_starts(machine, value)",
                 "step(machine, state, deed)", "state_after(machine, state, log)", "done(machine, log)"],
    "logs": ["trail(machine, state, log)", "states_after(machine, log, *, starts=None)",
             "parting_state(machine, one, other)", "width(machine)", "width_log(machine)", "reset_paper(machine)",
             "reset_holds(machine, value)"],
    "views": ["unlike_step(machine, value)", "check_view(machine, value)", "viewed_machine(machine, view)",
              "finest_view(machine, pairs)", "beside_machines(one, other)", "together_machines(one, other)",
              "part_machine(machine, states)"],
    "texts": ["machine_text(machine)", "read_machine(text)", "log_text(machine, log)", "read_log(machine, text)"],
    "ages": ["seen_starts(machine, log, age, state, *, starts=None)",
             "possible_ages(machine, log, state, *, starts=None, kept=None, bound=None)",
             "age_word(machine, log, one, other, state, *, starts=None)",
             "parting_starts(machine, log, one, other, state, *, starts=None)",
             "is_unlike_now(machine, log, one, other, state)"],
    "forests": ["next_age(machine, log, age, state, *, kept=None)",
                "age_forest(machine, log, state, *, starts=None, kept=None, bound=None)",
                "lowest_ages(machine, log, state, *, starts=None, kept=None, bound=None)",
                "least_marks(machine, log, state, *, starts=None, kept=None, bound=None)",
                "window_numbers(machine, log, state, width, *, starts=None, kept=None)",
                "lot_paper(machine, log, state, *, starts=None, kept=None, bound=None)",
                "lot_holds(machine, log, state, value, *, starts=None, kept=None, bound=None)"],
    "marks": ["path_marks(machine, log, state, *, starts=None, kept=None)",
              "bounded_marks(machine, log, state, bound, *, starts=None, kept=None)",
              "Marker(machine, *, starts=None, bound=None)", "Marker.put(self, deed)", "Marker.keep(self)",
              "Marker.marks_at(self, state)"],
    "readers": ["read_age(machine, log, state, mark, *, starts=None, kept=None, bound=None)",
                "read_copy(machine, log, state, mark, *, starts=None, kept=None, bound=None)",
                "is_safe_marking(machine, log, marking, *, starts=None, kept=None, bound=None)",
                "unsafe_paper(machine, log, marking, *, starts=None, kept=None, bound=None)",
                "unsafe_holds(machine, log, marking, value, *, starts=None, kept=None, bound=None)"],
    "onemark": ["one_mark_paper(machine, *, starts=None)", "is_one_mark(machine, *, starts=None)",
                "parted_holds(machine, value, *, starts=None)"],
    "tokens": ["most_marks(machine, state, *, starts=None)", "all_most(machine, *, starts=None)",
               "first_log(machine, state, number, *, starts=None)", "first_lengths(machine, state, *, starts=None)",
               "bound_marks(machine, state, bound)"],
    "wrapping": ["parting_lengths(machine, length, *, states=None)",
                 "is_enough(machine, modulus, *, states=None, bound=None)",
                 "wrap_paper(machine, modulus, *, states=None, bound=None)",
                 "wrap_holds(machine, modulus, value, *, states=None, bound=None)",
                 "least_wrap(machine, *, states=None, bound=None)", "never_paper(machine, *, states=None)",
                 "never_holds(machine, value, *, states=None)"],
    "onedeed": ["one_rows(machine)", "one_marks(machine)", "one_wrap(machine)", "orbit_sizes(machine)"],
    "tails": ["return_ages(machine, log, state, age)", "tail_place(machine, log, state, age)",
              "needed_place(machine, log, copies)"],
    "notes": ["LogNote(machine, *, starts=None)", "LogNote.put(self, deed)", "LogNote.mark(self, state)",
              "LogNote.read(self, state, mark, later=())", "note_of(machine, log, *, starts=None)"],
    "notemachine": ["parting_log(one, other)", "is_alike(one, other)",
                    "note_number(machine, *, starts=None, most=2000)"],
    "struck": ["kept_right(machine, log, copies, value)", "fewest_kept(machine, log, copies, *, most=20000)"],
    "pages": ["Pages(machine, cells)", "cell_value(pages, state, cell)", "own_deeds(pages)",
              "cell_machine(pages, cell)", "torn_states(pages, log, kept)"],
    "torn": ["is_safe(pages, word)", "word_paper(pages, word)", "torn_holds(pages, word, value)", "safe_orders(pages)",
             "rounds_needed(pages, order)", "stuck_pairs(pages)", "shortest_word(pages)", "any_order_paper(pages)",
             "any_torn_holds(pages, value)", "least_spread(pages)"],
    "replicas": ["pair_ages(machine, log, one, other, *, starts=None)",
                 "pair_ends(machine, log, one, other, *, ordered=False, starts=None)",
                 "newer_ways(machine, log, one, other, *, starts=None)",
                 "fresh_ways(machine, log, one, other, *, starts=None)",
                 "pair_paper(machine, one, other, *, ordered=False)", "order_paper(machine, one, other)",
                 "fresh_paper(machine, one, other)", "replica_holds(machine, one, other, value, *, ordered=False)",
                 "told_pairs(machine, *, ordered=False)", "ordered_pairs(machine)", "fresh_pairs(machine)"],
    "gaps": ["gap_ages(machine, log, one, other, gap, *, starts=None)",
             "gap_ends(machine, log, one, other, gap, *, starts=None)", "gap_paper(machine, gap)",
             "gap_holds(machine, gap, value)", "told_gaps(machine, most)"],
    "games": ["order_marks(width, living)", "order_script(width, living, marks)",
              "script_holds(width, living, marks, value)"],
    "lists": ["now_groups(machine, log, state, *, starts=None, kept=None)",
              "greatest_list(machine, log, state, marking, *, starts=None, kept=None)",
              "least_list(machine, log, state, marks, *, starts=None, kept=None, most=20000)"],
    "store": ["Store(machine, *, starts=None)", "Store.do(self, deed)", "Store.take_back(self, many)",
              "Store.needed(self)", "Store.trim(self)", "Store.disks(self)", "Store.keep(self, disk, state)",
              "Store.give_up(self, disk)", "Store.copy_on(self, disk)", "Store.carry(self, disk, other)",
              "Store.renew(self, disk)", "Store.read(self, disk)", "Store.starts_of(self, disk)",
              "Store.marks_on(self, state)", "Store.came_to(self)"],
    "desk": ["Desk(text)", "Desk.say(self, line)"],
}
ERRORS = ["AgeError", "BadMachine", "BadLog", "BadCopy", "BadText", "Refused", "TooGreat", "NoState", "NoDeed"]


class InterfaceTest(Case):
    def test_calls(self):
        for name, calls in CALLS.items():
            module = importlib.import_module(f"agedcopy.{name}")
            for call in calls:
                path, _, told = call.partition("(")
                found = module
                for word in path.split("."):
                    self.assertIn(word, vars(found), call)
                    found = vars(found)[word]
                self.assertEqual(found.__module__, module.__name__)
                self.assertEqual(str(inspect.signature(found)), "(" + told)

    def test_errors(self):
        module = importlib.import_module("agedcopy.errors")
        for name in ERRORS:
            self.assertEqual(vars(module)[name].__module__, "agedcopy.errors")
