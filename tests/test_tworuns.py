"""Promise [23]: any mapping by a run along one order and a run along another one."""

import random
import unittest

from bitstages.mappings import prefix, reversal, rotation
from bitstages.oneruns import goes, one_run
from bitstages.stages import run_mapping
from bitstages.tworuns import shows_two_runs, two_runs
from tests import support

SWAP = ([2, 1], 0)
GRAY = ([3, 6, 4], 0)
KNOT = ([7, 3, 5], 0)


def identity(bits):
    return [2 ** bit for bit in range(bits)], 0


def idle(order):
    return [(bit, 0, 0) for bit in order]


class ExamplesTest(unittest.TestCase):

    def test_examples(self):
        runs = ([(0, 0, 0), (1, 1, 0)], [(0, 2, 0), (1, 1, 0)])
        self.assertIs(shows_two_runs(SWAP, [0, 1], [0, 1], runs), True)
        self.assertIs(shows_two_runs(SWAP, [0, 1], [0, 1], runs[::-1]), False)
        self.assertEqual(two_runs(GRAY, [0, 1, 2], [2, 1, 0])[0][2], (2, 0, 0))


class CaseOfTwoRuns(unittest.TestCase):

    def check(self, mapping, order, other):
        bits = len(order)
        answer = two_runs(mapping, order, other)
        self.assertIs(type(answer), tuple)
        run, other_run = answer
        for each, along in ((run, order), (other_run, other)):
            self.assertIs(type(each), list)
            self.assertTrue(all(support.slow_is_stage(bits, stage) for stage in each))
            self.assertEqual([stage[0] for stage in each], along)
        self.assertEqual(run[order.index(other[0])], (other[0], 0, 0))
        self.assertIs(shows_two_runs(mapping, order, other, answer), True)
        return run + other_run


class FewBitsTest(CaseOfTwoRuns):

    def check_all(self, mapping):
        bits = len(mapping[0])
        ends = [support.slow_end(mapping, place) for place in range(2 ** bits)]
        for order in support.orders_of(bits):
            for other in support.orders_of(bits):
                both = self.check(mapping, order, other)
                self.assertEqual([support.slow_walk(both, place) for place in range(2 ** bits)], ends)

    def test_one_and_two_bits(self):
        for bits in (1, 2):
            for mapping in support.all_mappings(bits):
                self.check_all(mapping)

    def test_three_bits(self):
        for at, mapping in enumerate(support.all_mappings(3)):
            if at % 9 == 0:
                self.check_all(mapping)

    def test_drawn_ones(self):
        chance = random.Random(231)
        for turn in range(160):
            bits = 4 + turn % 5
            mapping = support.some_mapping(bits, chance)
            order, other = (chance.sample(range(bits), bits) for _ in range(2))
            if turn % 4 == 1:
                other = order
            if turn % 4 == 2:
                other = order[::-1]
            both = self.check(mapping, order, other)
            for place in range(2 ** bits):
                self.assertEqual(support.slow_walk(both, place), support.slow_end(mapping, place))


class SixtyBitsTest(CaseOfTwoRuns):

    def test_drawn_ones(self):
        chance = random.Random(232)
        plain = list(range(60))
        for mapping in (support.some_mapping(60, chance), support.some_mapping(60, chance), reversal(60), rotation(60, 7),
                        prefix(60), identity(60), (identity(60)[0], 2 ** 60 - 1), support.some_triangle(60, chance)[0]):
            order, other = (chance.sample(range(60), 60) for _ in range(2))
            for pair in ((order, other), (order, order), (order, order[::-1]), (plain, plain), (plain, plain[::-1])):
                both = self.check(mapping, *pair)
                self.assertEqual(run_mapping(60, both), mapping)
                for place in support.some_places(60, chance, 3):
                    self.assertEqual(support.slow_walk(both, place), support.slow_end(mapping, place))


class ShowsTest(unittest.TestCase):

    def test_any_value(self):
        for mapping in (SWAP, ([1], 1), GRAY, reversal(60)):
            bits = len(mapping[0])
            order = list(range(bits))
            good = two_runs(mapping, order, order)
            for value in support.odd_values():
                for told in (value, (value, good[1]), (good[0], value), (value, value), [value, value], (value,)):
                    self.assertIs(shows_two_runs(mapping, order, order, told), False, told)

    def test_other_shapes(self):
        run, other = two_runs(KNOT, [0, 1, 2], [2, 0, 1])
        both = ([0, 1, 2], [2, 0, 1])
        self.assertIs(shows_two_runs(KNOT, *both, (run, other)), True)
        for value in ([run, other], (run, other, []), (run, other, other), (run,), (run + other,), (run + other, []),
                      ([], run + other), (tuple(run), other), (run, tuple(other)), (other, run), (run, run), (other, other),
                      (run[:2], other), (run, other[:2]), (run, other + [(1, 0, 0)]), (run, other[1:] + other[:1]),
                      (run[::-1], other), (run, other[::-1]), (idle([0, 1, 2]), other), (run, idle([2, 0, 1])),
                      (run + idle([0, 1, 2]), other), ([None] * 3, other), (run, [list(stage) for stage in other])):
            self.assertIs(shows_two_runs(KNOT, *both, value), False, value)
        self.assertIs(shows_two_runs(KNOT, *both[::-1], (run, other)), False)
        self.assertIs(shows_two_runs((KNOT[0], 1), *both, (run, other)), False)
        self.assertIs(shows_two_runs(GRAY, *both, (run, other)), False)

    def test_a_stage_turned(self):
        chance = random.Random(233)
        for bits in (2, 3, 7, 60):
            mapping = support.some_mapping(bits, chance)
            order, other = (chance.sample(range(bits), bits) for _ in range(2))
            runs = two_runs(mapping, order, other)
            for which in (0, 1):
                for at in chance.sample(range(bits), min(bits, 5)):
                    bit, mask, flip = runs[which][at]
                    for stage in ((bit, mask, 1 - flip), (bit, mask ^ 2 ** order[order.index(bit) - 1], flip),
                                  (bit, mask, flip == 1), (bit, mask | 2 ** bit, flip), (bit, mask, flip + 2), (bit, mask)):
                        changed = [list(run) for run in runs]
                        changed[which][at] = stage
                        self.assertIs(shows_two_runs(mapping, order, other, tuple(changed)), False)

    def test_the_first_bit_need_not_be_idle(self):
        chance = random.Random(234)
        for bits in (2, 3, 5, 60):
            order, other = (chance.sample(range(bits), bits) for _ in range(2))
            busy = 0
            for _ in range(5):
                runs = (support.some_run_along(order, chance), support.some_run_along(other, chance))
                mapping = run_mapping(bits, runs[0] + runs[1])
                busy += runs[0][order.index(other[0])][1:] != (0, 0)
                self.assertIs(shows_two_runs(mapping, order, other, runs), True)
            self.assertGreater(busy, 0)

    def test_one_run_and_an_idle_one(self):
        chance = random.Random(235)
        for mapping in (GRAY, prefix(60), support.some_triangle(9, chance)[0]):
            bits = len(mapping[0])
            order, other = (chance.sample(range(bits), bits) for _ in range(2))
            self.assertIs(goes(mapping, order) and goes(mapping, other), True)
            for value in ((idle(order), one_run(mapping, other)), (one_run(mapping, order), idle(other))):
                self.assertIs(shows_two_runs(mapping, order, other, value), True)
            self.assertIs(shows_two_runs(mapping, order, other, (idle(order), idle(other))), False)

    def test_many_items(self):
        """Runs of one bit have one stage each, however long the lists are."""
        mapping = ([1], 0)
        for many in (0, 2, 3, 400, 401, 1201):
            self.assertIs(shows_two_runs(mapping, [0], [0], ([(0, 0, 0)] * many, [(0, 0, 0)])), False)
            self.assertIs(shows_two_runs(mapping, [0], [0], ([(0, 0, 0)], [(0, 0, 0)] * many)), False)
        told = [((0, 0, flip), (0, 0, later)) for flip in (0, 1) for later in (0, 1)]
        self.assertEqual([shows_two_runs(mapping, [0], [0], ([one], [two])) for one, two in told], [True, False, False, True])


class ErrorsTest(unittest.TestCase):

    def test_first_wrong_one(self):
        from bitstages.errors import InvalidMapping, InvalidOrder
        for call in (two_runs, lambda *args: shows_two_runs(*args, None)):
            self.assertEqual(support.outcome(call, ([1, 1], 0), [9], None), (InvalidMapping, 1))
            for wrong in ([0], [0, 1, 2], [1, 1], [0, True], None, (0, 1), []):
                self.assertEqual(support.outcome(call, SWAP, wrong, [0, 1]), (InvalidOrder, "none"))
                self.assertEqual(support.outcome(call, SWAP, [0, 1], wrong), (InvalidOrder, "none"))


if __name__ == "__main__":
    unittest.main()
