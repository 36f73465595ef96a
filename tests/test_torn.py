"""Promises 41, 42 and 43: words of cells that tell the state and words that do not."""

import itertools
import random

from agedcopy.errors import Refused
from agedcopy.machines import Machine
from agedcopy.pages import Pages, torn_states
from agedcopy.torn import (any_order_paper, any_torn_holds, is_safe, least_spread, rounds_needed, safe_orders,
                           shortest_word, stuck_pairs, torn_holds, word_paper)
from tests.helpers import ODD, TURNS, Case, bent, is_below, is_log, is_row, led, logs_to
from tests.test_pages import BITS, pages_drawn

ONE = Pages(Machine([(0,), (0,)]), [[5, 6, 7]])
# States side by side are alike in one cell now, in the other one a deed later.
WHEEL = Pages(Machine([(1, 2, 3, 0)]), [(0, 0), (0, 1), (1, 1), (1, 0)])


def runs_alike(pages, cells, one, other, log, ages):
    """Whether two runs are alike in the cells at the ages and come to unlike states."""
    machine = pages.machine
    if led(machine, one, log) == led(machine, other, log):
        return False
    return all(pages.cells[led(machine, one, log[:age])][cell] == pages.cells[led(machine, other, log[:age])][cell]
               for cell, age in zip(cells, ages))


def is_torn(pages, cells, falling, value):
    """What the document says of ("torn", one, other, log, ages), word by word."""
    if not is_row(value, 5) or value[0] != "torn":
        return False
    _, one, other, log, ages = value
    if not is_below(one, pages.machine.states) or not is_below(other, pages.machine.states):
        return False
    if not is_log(pages.machine, log) or not is_row(ages, len(cells)):
        return False
    if not all(is_below(age, len(log) + 1) for age in ages) or (not falling and list(ages) != sorted(ages)):
        return False
    return runs_alike(pages, cells, one, other, log, ages)


def some_torn(pages, cells, falling, length):
    """How long the shortest log is, of those to a length, that is torn; None if there is none."""
    starts = list(itertools.combinations(range(pages.machine.states), 2))
    for log in logs_to(pages.machine, length):
        choices = itertools.product if falling else itertools.combinations_with_replacement
        told = {"repeat": len(cells)} if falling else {"r": len(cells)}
        for ages in choices(range(len(log) + 1), **told):
            if any(runs_alike(pages, cells, one, other, log, ages) for one, other in starts):
                return len(log)
    return None


def left(pages, pairs, cell=None):
    """The pairs to which deeds lead some pairs of those that are alike in a cell, of all of them for None."""
    found = {pair for pair in pairs if cell is None or pages.cells[pair[0]][cell] == pages.cells[pair[1]][cell]}
    while True:
        more = {tuple(sorted((table[one], table[other]))) for table in pages.machine.tables
                for one, other in found if table[one] != table[other]} | found
        if more == found:
            return found
        found = more


def all_pairs(pages):
    return set(itertools.combinations(range(pages.machine.states), 2))


def is_safe_word(pages, word):
    pairs = all_pairs(pages)
    for cell in word:
        pairs = left(pages, pairs, cell)
    return not pairs


def told_rounds(pages, order):
    """How many rounds are safe, and the pairs left at last."""
    pairs = all_pairs(pages)
    for rounds in range(99):
        if not pairs:
            return rounds, pairs
        before = pairs
        for cell in order:
            pairs = left(pages, pairs, cell)
        if pairs == before:
            return None, pairs


class WordTest(Case):
    def test_examples(self):
        self.same((torn_holds(BITS, (0, 1), ["torn", 2, 3, [0], [0, 1]]),
                   torn_holds(BITS, (1, 0), ["torn", 2, 3, [0], [0, 1]])), (True, False))

    def test_edges(self):
        self.same((is_safe(ONE, [0]), word_paper(ONE, (2,)), is_safe(pages=ONE, word=(0,) * 40)),
                  (True, ("safe",), True))
        self.same((is_safe(BITS, (0,)), is_safe(BITS, [1]), is_safe(BITS, (1, 0)), is_safe(BITS, (0, 1))),
                  (False, False, True, False))
        self.same(word_paper(BITS, [1, 0]), ("safe",))
        self.same(is_safe(BITS, (0, 1) * 20), True)
        self.same((is_safe(WHEEL, (0, 1) * 20), len(word_paper(WHEEL, (0, 1) * 20)[4])), (False, 40))
        self.same(word_paper(pages=Pages(TURNS, [[0], [1], [2]]), word=(0,)), ("safe",))
        # Alike in the cell without a deed.
        found = word_paper(BITS, (0,))
        self.same((found[0], found[3:]), ("torn", ((), (0,))))

    def test_errors(self):
        for call in (is_safe, word_paper):
            for value in (*ODD, (), [], (2,), [0, 2], (-1,), (True,), "0", (0,) * 41, [None], (0, None)):
                if value != ([0],):
                    self.fails(Refused, value, call, BITS, value)
        self.fails(Refused, (), torn_holds, BITS, (), None)
        for value in ((2,), (0,) * 41, None, [True]):
            self.fails(Refused, value, torn_holds, BITS, value, ["torn", 2, 3, [0], [0, 1]])

    def test_drawn(self):
        draw = random.Random(220)
        found = set()
        for pages in pages_drawn(221, 300, 5, 2):
            word = tuple(draw.randrange(pages.width) for _ in range(draw.randint(1, 4)))
            told = is_safe_word(pages, word)
            self.same(is_safe(pages, word), told)
            paper = word_paper(pages, list(word))
            if told:
                self.same(paper, ("safe",))
                found.add(None)
                continue
            self.assertTrue(is_torn(pages, word, False, paper))
            self.assertIs(type(paper), tuple)
            self.assertIs(type(paper[3]), tuple)
            self.assertIs(type(paper[4]), tuple)
            self.same(torn_holds(pages, word, paper), True)
            found.add(len(paper[3]))
            if len(paper[3]) <= 4:
                self.assertEqual(some_torn(pages, word, False, len(paper[3])), len(paper[3]))
        self.assertLessEqual({None, 0, 1, 2}, found)

    def test_safe_words_by_all_short_logs(self):
        for pages in pages_drawn(222, 40, 4, 2, 2):
            for word in itertools.product(range(pages.width), repeat=2):
                if some_torn(pages, word, False, 4) is not None:
                    self.same(is_safe(pages, word), False)

    def test_what_is_told_is_told(self):
        """Torn copies by a safe word leave one state: promise 40."""
        for pages in pages_drawn(223, 60, 5, 2):
            for order in safe_orders(pages):
                for log in logs_to(pages.machine, 2):
                    for start in range(pages.machine.states):
                        for ages in itertools.combinations_with_replacement(range(len(log) + 1), len(order)):
                            kept = [(cell, age, pages.cells[led(pages.machine, start, log[:age])][cell])
                                    for cell, age in zip(order, ages)]
                            self.same(torn_states(pages, log, kept), (led(pages.machine, start, log),))

    def test_cells_besides_never_make_a_safe_word_unsafe(self):
        draw = random.Random(224)
        for pages in pages_drawn(225, 150, 5, 2):
            for order in safe_orders(pages):
                word = list(order)
                for _ in range(draw.randint(1, 3)):
                    word.insert(draw.randint(0, len(word)), draw.randrange(pages.width))
                self.same(is_safe(pages, word), True)


class HoldsTest(Case):
    def test_bent(self):
        checked = set()
        for pages in pages_drawn(226, 40, 4, 2, 2):
            word = (0, pages.width - 1)
            papers = [word_paper(pages, word), ("torn", 0, pages.machine.states - 1, (0,), (0, 1))]
            for value in itertools.chain(papers, *map(bent, papers)):
                told = is_torn(pages, word, False, value)
                checked.add(told)
                self.same(torn_holds(pages, word, value), told)
                self.same(any_torn_holds(pages, value), is_torn(pages, range(pages.width), True, value))
        self.assertEqual(checked, {True, False})

    def test_ages_may_fall_where_the_order_is_any(self):
        pages = Pages(Machine([(1, 2, 3, 3)]), [(0, 0), (1, 0), (1, 1), (2, 2)])
        for ages in itertools.product(range(2), repeat=2):
            for one, other in itertools.product(range(4), repeat=2):
                value = ["torn", one, other, [0], list(ages)]
                self.same(any_torn_holds(pages, value), is_torn(pages, (0, 1), True, value))
                self.same(torn_holds(pages, (0, 1), value), is_torn(pages, (0, 1), False, value))
        self.same(any_torn_holds(pages, ("torn", 0, 1, (0,), (1, 0))), True)
        self.same(torn_holds(pages, (0, 1), ("torn", 0, 1, (0,), (1, 0))), False)
        self.same(torn_holds(pages, (1, 0), ("torn", 1, 0, [0], [0, 1])), True)

    def test_any_value(self):
        for value in ODD:
            self.same(torn_holds(BITS, (0, 1), value), False)
            self.same(any_torn_holds(BITS, value), False)
        for value in (("safe",), ["safe"], ("torn",), ("torn", 2, 3, [0], [0]), ("torn", 2, 3, [0], [0, 2]),
                      ("torn", 2, 3, [2], [0, 1]), ("torn", 2, 4, [0], [0, 1]), ("torn", 2, 2, [0], [0, 1]),
                      ("torn", 2, True, [0], [0, 1]), ("torn", 2, 3, [0], [0, True]), ("torn", 2, 3, "0", "01"),
                      ("two", 2, 3, [0], [0, 1]), ("torn", 2, 3, [0], [1, 0]), ("torn", 2, 3, [0] * 10001, [0, 1])):
            self.same(torn_holds(BITS, (0, 1), value), False)

    def test_long_logs(self):
        log = (0,) * 10000
        self.same(torn_holds(WHEEL, [0] * 40, ("torn", 0, 1, log, [0] * 40)), True)
        self.same(torn_holds(WHEEL, [0] * 40, ("torn", 0, 1, log, [0] * 39 + [9999])), False)
        self.same(torn_holds(WHEEL, [0] * 40, ("torn", 0, 1, log, [0] * 39 + [10000])), True)


class RoundTest(Case):
    def test_examples(self):
        self.same((safe_orders(BITS), shortest_word(BITS)), (((1, 0),), (1, 0)))
        self.same((rounds_needed(BITS, (0, 1)), rounds_needed(BITS, (1, 0))), (2, 1))

    def test_edges(self):
        self.same((safe_orders(ONE), shortest_word(ONE), stuck_pairs(ONE)),
                  (tuple(itertools.permutations(range(3))), (0,), ()))
        self.same((rounds_needed(ONE, [2, 0, 1]), rounds_needed(pages=ONE, order=(0, 1, 2))), (0, 0))
        one_cell = Pages(TURNS, [[0], [1], [2]])
        self.same((safe_orders(one_cell), shortest_word(pages=one_cell), rounds_needed(one_cell, [0])),
                  (((0,),), (0,), 1))
        self.same((safe_orders(WHEEL), shortest_word(WHEEL), rounds_needed(WHEEL, (1, 0))), ((), None, None))
        self.same(stuck_pairs(WHEEL), ((0, 1), (0, 3), (1, 2), (2, 3)))
        self.same(stuck_pairs(BITS), ())

    def test_stuck_pairs_and_what_deeds_make_of_them(self):
        # 0, 1, 2 go round and are never told apart; a deed leads them, unlike, to 3 and 4, which tell themselves.
        pages = Pages(Machine([(1, 2, 0, 3, 4), (3, 3, 4, 3, 4)]), [(0, 0), (1, 0), (1, 1), (2, 2), (3, 3)])
        self.same(stuck_pairs(pages), ((0, 1), (0, 2), (1, 2), (3, 4)))
        self.same((shortest_word(pages), rounds_needed(pages, (0, 1)), safe_orders(pages)), (None, None, ()))

    def test_errors(self):
        for value in (*ODD, (), [], (0,), (0, 0), (1, 1), (0, 1, 0), (0, 2), (True, 0), (0, -1), "01", [0, None]):
            self.fails(Refused, value, rounds_needed, BITS, value)

    def test_drawn(self):
        rounds = set()
        stuck = set()
        for pages in pages_drawn(227, 250, 6, 3):
            orders = list(itertools.permutations(range(pages.width)))
            self.same(safe_orders(pages), tuple(order for order in orders if is_safe_word(pages, order)))
            for order in orders:
                number, pairs = told_rounds(pages, order)
                rounds.add(number)
                self.same(rounds_needed(pages, order), number)
                self.same(stuck_pairs(pages), tuple(sorted(pairs)))
            stuck.add(bool(stuck_pairs(pages)))
            self.check_shortest(pages)
        self.assertLessEqual({0, 1, 2, None}, rounds)
        self.assertEqual(stuck, {True, False})

    def check_shortest(self, pages):
        """The first safe word; none if and only if there are stuck pairs."""
        found = shortest_word(pages)
        self.assertEqual(found is None, stuck_pairs(pages) != ())
        if found is not None:
            self.assertTrue(is_safe_word(pages, found))
        if found is None or pages.width ** len(found) <= 100:
            for length in range(1, 4 if found is None else len(found) + 1):
                for word in itertools.product(range(pages.width), repeat=length):
                    if word == found:
                        break
                    self.assertFalse(is_safe_word(pages, word))

    def test_stuck_pairs_lead_to_themselves(self):
        """The greatest lot that deeds and one round lead to the same lot, among all lots of few pairs."""
        for pages in pages_drawn(228, 60, 3, 2, 2):
            lots = []
            for many in range(4):
                for pairs in itertools.combinations(sorted(all_pairs(pages)), many):
                    lot = left(pages, set(pairs))
                    for cell in range(pages.width):
                        lot = left(pages, lot, cell)
                    if lot == set(pairs):
                        lots.append(set(pairs))
            self.same(stuck_pairs(pages), tuple(sorted(max(lots, key=len))))

    def test_a_long_way_down(self):
        tables = [tuple(min(state + 1, 11) for state in range(12)), tuple(range(12))]
        pages = Pages(Machine(tables), [(state % 3, state // 3 % 2, state // 6) for state in range(12)])
        for order in itertools.permutations(range(3)):
            number, pairs = told_rounds(pages, order)
            self.same((rounds_needed(pages, order), stuck_pairs(pages)), (number, tuple(sorted(pairs))))

    def test_limits(self):
        draw = random.Random(229)
        for states, width in ((12, 3), (8, 4)):
            worth = list(itertools.product(range(3 if width == 3 else 2), repeat=width))
            for _ in range(20):
                tables = []
                for _ in range(3):
                    table = list(range(states))
                    for _ in range(4):
                        at = draw.randrange(states - 1)
                        table[at] = draw.randint(at, min(at + 2, states - 1))
                    tables.append(table)
                pages = Pages(Machine(tables), draw.sample(worth, states))
                word = shortest_word(pages)
                self.assertEqual(word is None, stuck_pairs(pages) != ())
                self.assertTrue(word is None or is_safe_word(pages, word))


class AnyOrderTest(Case):
    def test_examples(self):
        self.same(least_spread(BITS), 1)

    def test_edges(self):
        self.same((any_order_paper(ONE), least_spread(ONE)), (("safe",), None))
        one_cell = Pages(TURNS, [[0], [1], [2]])
        self.same((any_order_paper(pages=one_cell), least_spread(pages=one_cell)), (("safe",), None))
        paper = any_order_paper(BITS)
        self.same((paper[0], len(paper[3]), any_torn_holds(BITS, paper)), ("torn", 1, True))
        self.same(any_torn_holds(pages=BITS, value=list(paper)), True)

    def test_drawn(self):
        found = set()
        for pages in pages_drawn(230, 250, 5, 2):
            paper = any_order_paper(pages)
            if paper == ("safe",):
                self.same((least_spread(pages), some_torn(pages, range(pages.width), True, 3)), (None, None))
                found.add(None)
                continue
            spread = len(paper[3])
            found.add(spread)
            self.same(least_spread(pages), spread)
            self.assertTrue(is_torn(pages, range(pages.width), True, paper))
            self.same(any_torn_holds(pages, paper), True)
            self.assertIs(type(paper[4]), tuple)
            self.assertEqual((min(paper[4]), max(paper[4])), (0, spread))
            if spread <= 3:
                self.assertEqual(some_torn(pages, range(pages.width), True, spread), spread)
        self.assertLessEqual({None, 1, 2}, found)

    def test_safe_in_any_order_is_safe_in_each(self):
        found = set()
        for pages in pages_drawn(231, 200, 5, 2):
            orders = tuple(itertools.permutations(range(pages.width)))
            found.add((any_order_paper(pages) == ("safe",), safe_orders(pages) == orders))
        self.assertNotIn((True, False), found)
        self.assertLessEqual({(True, True), (False, False)}, found)
