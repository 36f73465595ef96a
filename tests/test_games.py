"""Promises 48 and 49: copies that are given up in any order."""

import itertools

from agedcopy.errors import Refused
from agedcopy.games import order_marks, order_script, script_holds
from tests.helpers import ODD, Case, bent, is_below, is_row

LAST = ("keep", (), (None, None))
ONE = ("keep", (0, 1), (("drop", 0, LAST), ("drop", 1, LAST)))
OTHER = ("keep", (0, 1), (("drop", 1, LAST), ("drop", 0, LAST)))
FIRST = ("keep", (), (("keep", (), (None, ONE)), ("keep", (), (OTHER, None))))
RULES = [(width, living) for width in range(1, 4) for living in range(1, 6)]


class Position:
    """Living copies told by number: marks, parted pairs and bundles, as the document tells them."""

    def __init__(self):
        self.marks = {}
        self.parted = set()
        self.bundles = []
        self.many = 0

    def copy(self):
        found = Position()
        found.marks, found.parted = dict(self.marks), set(self.parted)
        found.bundles, found.many = [set(bundle) for bundle in self.bundles], self.many
        return found

    def drop(self, number):
        found = self.copy()
        del found.marks[number]
        found.bundles = [bundle - {number} for bundle in found.bundles if bundle != {number}]
        return found

    def keep(self, met, mark):
        found = self.copy()
        new = found.many
        found.parted |= {(number, new) for number in found.marks if number not in met}
        joined = {new}.union(*(bundle for bundle in found.bundles if bundle <= set(met)))
        found.bundles = [bundle for bundle in found.bundles if not bundle <= set(met)] + [joined]
        found.marks[new] = mark
        found.many += 1
        return found

    def width(self):
        for many in range(len(self.marks), 0, -1):
            for lot in itertools.combinations(sorted(self.marks), many):
                if all(pair in self.parted for pair in itertools.combinations(lot, 2)):
                    return many
        return 0

    def choices(self):
        """What a new copy may have met: all living copies of some bundles."""
        for many in range(len(self.bundles) + 1):
            for lot in itertools.combinations(self.bundles, many):
                yield tuple(sorted(set().union(*lot)))

    def barred(self, met):
        return {mark for number, mark in self.marks.items() if number not in met}

    def key(self):
        """What matters: the copies' order by number, marks by when they came, parted pairs, bundles."""
        order = sorted(self.marks)
        names = {}
        marks = tuple(names.setdefault(self.marks[number], len(names)) for number in order)
        parted = tuple(pair in self.parted for pair in itertools.combinations(order, 2))
        return marks, parted, tuple(sorted(tuple(order.index(number) for number in sorted(bundle))
                                           for bundle in self.bundles))


def moves(rules, position):
    """By move the positions that may follow; none where no mark is left."""
    width, living, marks = rules
    for number in sorted(position.marks):
        yield [position.drop(number)]
    if len(position.marks) < living:
        for met in position.choices():
            if position.keep(met, 0).width() <= width:
                yield [position.keep(met, mark) for mark in range(marks) if mark not in position.barred(met)]


def runs_out(rules):
    """In how many steps marks run out at the latest, None if they need not."""
    places = {Position().key(): Position()}
    rows = {}
    for key in iter_growing(places):
        rows[key] = []
        for later in moves(rules, places[key]):
            for position in later:
                places.setdefault(position.key(), position)
            rows[key].append({position.key() for position in later})
    lost = {}
    for steps in range(1, 40):
        fresh = [key for key in rows if key not in lost and any(row <= set(lost) for row in rows[key])]
        lost.update(dict.fromkeys(fresh, steps))
    return lost.get(Position().key())


def iter_growing(table):
    done = 0
    while done < len(table):
        for key in list(table)[done:]:
            done += 1
            yield key


def is_script(rules, position, value):
    """What the document says of a script, word by word."""
    width, living, marks = rules
    if not is_row(value, 3):
        return False
    word, told, rest = value
    if word == "drop":
        return is_below(told, position.many) and told in position.marks and is_script(rules, position.drop(told), rest)
    if word != "keep" or not is_row(told) or not all(is_below(number, position.many) for number in told):
        return False
    if tuple(told) not in position.choices() or len(position.marks) == living or not is_row(rest, marks):
        return False
    if position.keep(told, 0).width() > width:
        return False
    barred = position.barred(told)
    return all(answer is None if mark in barred else is_script(rules, position.keep(told, mark), answer)
               for mark, answer in enumerate(rest))


def depth(script):
    """How many steps the longest way through a script has."""
    if script is None:
        return 0
    return 1 + (depth(script[2]) if script[0] == "drop" else max(map(depth, script[2])))


def steps(script):
    if script is None:
        return 0
    return 1 + (steps(script[2]) if script[0] == "drop" else sum(map(steps, script[2])))


def kinds(script):
    """The kinds of values within a script."""
    found = {type(script)}
    if isinstance(script, (tuple, list)):
        found = found.union(*map(kinds, script))
    return found


class OrderTest(Case):
    def test_examples(self):
        self.same((order_marks(1, 5), order_marks(2, 2), order_marks(2, 4), order_script(2, 4, 3)), (1, 2, 3, None))

    def test_all(self):
        self.same([order_marks(width, living) for width, living in RULES],
                  [1, 1, 1, 1, 1, 1, 2, 3, 3, 3, 1, 2, 3, 4, 5])
        self.same(order_marks(width=2, living=3), 3)

    def test_by_another_reckoning(self):
        for width, living in [rules for rules in RULES if rules != (3, 5)]:
            needed = order_marks(width, living)
            self.assertIsNone(runs_out((width, living, needed)))
            if needed > 1:
                self.assertEqual(runs_out((width, living, needed - 1)), depth(order_script(width, living, needed - 1)))

    def test_more_copies_or_width_never_need_fewer_marks(self):
        for width, living in RULES:
            if width < 3:
                self.assertLessEqual(order_marks(width, living), order_marks(width + 1, living))
            if living < 5:
                self.assertLessEqual(order_marks(width, living), order_marks(width, living + 1))

    def test_errors_in_order(self):
        for call, rest in ((order_marks, ()), (order_script, (None,)), (script_holds, (None, None))):
            for value in (*ODD, 0, 4):
                self.fails(Refused, value, call, value, None, *rest)
            for value in (*ODD, 0, 6):
                self.fails(Refused, value, call, 3, value, *rest)
        for value in (*ODD, 0, 6):
            self.fails(Refused, value, order_script, 3, 5, value)
            self.fails(Refused, value, script_holds, 3, 5, value, None)


class ScriptTest(Case):
    def test_each(self):
        for width, living in RULES:
            needed = order_marks(width, living)
            for marks in range(1, 6):
                script = order_script(width, living, marks)
                if marks >= needed:
                    self.assertIsNone(script)
                    continue
                self.assertLessEqual(depth(script), 20)
                self.assertLessEqual(steps(script), 2000)
                self.assertTrue(is_script((width, living, marks), Position(), script))
                self.same(script_holds(width, living, marks, script), True)
                self.assertLessEqual(kinds(script), {tuple, str, int, type(None)})
                # What runs out by some rules runs out by wider ones, and not by narrower ones.
                for other in RULES:
                    told = is_script((*other, marks), Position(), script)
                    self.same(script_holds(*other, marks, script), told)
                    self.assertTrue(told or other[0] < width or other[1] < living)

    def test_as_described(self):
        self.same(order_script(width=3, living=2, marks=1), ("keep", (), (("keep", (), (None,)),)))
        self.same(order_script(1, 5, 1), None)

    def test_fewer_marks_run_out_too(self):
        for marks in range(1, 5):
            self.assertIsNotNone(order_script(3, 5, marks))


class HoldsTest(Case):
    def test_examples(self):
        self.same((script_holds(2, 3, 2, FIRST), script_holds(2, 3, 3, FIRST)), (True, False))

    def test_lists_will_do(self):
        def as_lists(value):
            return [as_lists(part) for part in value] if isinstance(value, tuple) else value
        self.same(script_holds(width=2, living=3, marks=2, value=as_lists(FIRST)), True)
        self.same(script_holds(3, 5, 2, FIRST), True)

    def test_limits_are_passed(self):
        self.same(script_holds(2, 2, 2, FIRST), False)
        self.same(script_holds(1, 3, 2, FIRST), False)
        three = ("keep", (), (("keep", (), (None, ("keep", (), (None, None)))), ("keep", (), (LAST, None))))
        self.same((script_holds(3, 3, 2, three), script_holds(2, 3, 2, three), script_holds(3, 2, 2, three)),
                  (True, False, False))

    def test_bundles_that_lost_a_copy(self):
        # The copy that has met both is given up: they are one bundle still, though parted.
        def after(met):
            last = ("keep", met, (None, None))
            return lambda mark: ("drop", 2, last)
        for met, told in (((), True), ((0, 1), False), ((0,), False), ((1,), False)):
            one = ("keep", (0, 1), (after(met)(0), after(met)(1)))
            script = ("keep", (), (("keep", (), (None, one)), ("keep", (), (one, None))))
            self.same(script_holds(3, 3, 2, script), told)
            self.assertEqual(is_script((3, 3, 2), Position(), script), told)
            self.same(script_holds(2, 3, 2, script), False)

    def test_numbers_go_on(self):
        # The second copy is number 1, though number 0 is gone.
        def script(number):
            rest = ("keep", (), (("drop", number, ("keep", (), (("keep", (), (None,)),))),))
            return ("keep", (), (("drop", 0, rest),))
        self.same([script_holds(2, 2, 1, script(number)) for number in (0, 1, 2)], [False, True, False])

    def test_a_copy_is_given_up_once(self):
        end = ("keep", (), (("keep", (), (None,)),))
        once = ("keep", (), (("drop", 0, end),))
        twice = ("keep", (), (("drop", 0, ("drop", 0, end)),))
        self.same((script_holds(2, 2, 1, end), script_holds(2, 2, 1, once), script_holds(2, 2, 1, twice)),
                  (True, True, False))
        self.same(script_holds(2, 2, 1, ("drop", 0, end)), False)

    def test_met_copies(self):
        def script(met):
            return ("keep", (), (("keep", (0,), (("keep", met, (("drop", 0, ("keep", (), (None,))),)),)),))
        for met, told in (((0, 1), True), ([0, 1], True), ((1, 0), False), ((0,), False), ((1,), False), ((), False),
                          ((0, 1, 2), False), ((0, 0, 1), False), ((False, 1), False), (None, False), (1, False)):
            self.same(script_holds(2, 4, 1, script(met)), told)

    def test_bent(self):
        checked = {True: 0, False: 0}
        for rules, script in (((2, 3, 2), FIRST), ((2, 2, 1), order_script(2, 2, 1)),
                              ((3, 4, 2), order_script(3, 4, 2)), ((2, 4, 2), order_script(2, 4, 2))):
            for value in bent(script):
                told = is_script(rules, Position(), value)
                checked[told] += 1
                self.same(script_holds(*rules, value), told)
        self.assertGreater(checked[False], 1000)
        self.assertGreater(checked[True], 10)

    def test_steps_put_in(self):
        """More copies kept and given up do no harm, as long as the limits are kept."""
        def padded(many):
            if many == 0:
                return ("keep", (), (("keep", (), (None,)),))
            return ("keep", (), (("drop", 0, rest(many - 1, 1)),))

        def rest(many, number):
            if many == 0:
                return ("keep", (), (("keep", (), (None,)),))
            return ("keep", (), (("drop", number, rest(many - 1, number + 1)),))
        for many in range(9):
            self.same(script_holds(2, 2, 1, padded(many)), True)

    def test_any_value(self):
        for value in ODD:
            self.same(script_holds(2, 3, 2, value), False)
        for value in (("keep", ()), ("keep", (), (None, None)), ("keep", (), (FIRST, FIRST)), ("drop", 0, FIRST),
                      ("keep", (), FIRST[2], 0), ("keep", (0,), FIRST[2]), ("keep", (), FIRST[2][:1]),
                      ("keep", (), (*FIRST[2], None)), ("keep", (), (FIRST[2][0], None)), ("give", (), FIRST[2])):
            self.same(script_holds(2, 3, 2, value), False)
