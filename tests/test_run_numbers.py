"""Promise [19]: how many runs there are along an order, and their indices."""

import itertools
import random
import unittest

from bitstages import errors
from bitstages.oneruns import nth_run, run_count, run_index
from tests import samples, support


def slow_stage_index(bits, stage):
    """How many stages at the same bit are less."""
    bit, mask, flip = stage
    digits = f"{mask:0{bits}b}"
    return 2 * int("0" + digits[:bits - 1 - bit] + digits[bits - bit:], 2) + flip


class ExamplesTest(unittest.TestCase):

    def test_examples(self):
        self.assertEqual(run_count(2), 16)
        self.assertEqual(run_index([0, 1], [(0, 2, 0), (1, 0, 1)]), 9)
        self.assertEqual(nth_run([0, 1], 9), [(0, 2, 0), (1, 0, 1)])
        self.assertEqual(nth_run([1, 0], 4), [(1, 0, 1), (0, 0, 0)])
        self.assertEqual(run_count(50), 2 ** 2500)


class CaseWithLimits(unittest.TestCase):

    def check_limit(self, limit, function, *args):
        with self.assertRaises(errors.TooLarge) as caught:
            function(*args)
        self.assertEqual(caught.exception.limit, limit)

    def check_number(self, function, *args):
        self.assertEqual(support.outcome(function, *args), (errors.InvalidNumber, "none"))


class RunCountTest(CaseWithLimits):

    def test_counts(self):
        self.assertEqual([run_count(1), run_count(2), run_count(3)], [2, 16, 512])
        for bits in range(1, 51):
            self.assertEqual(run_count(bits), (2 * 2 ** (bits - 1)) ** bits)

    def test_too_large(self):
        for bits in range(51, 61):
            self.check_limit(50, run_count, bits)
        for bits in (0, 61, True, None, support.HUGE):
            self.assertEqual(support.outcome(run_count, bits), (errors.InvalidBits, "none"))


class NumberingTest(CaseWithLimits):

    def test_all_of_few_bits(self):
        for bits in (1, 2, 3):
            for order in support.orders_of(bits):
                runs = [list(run) for run in itertools.product(*[support.stages_at(bits, bit) for bit in order])]
                self.assertEqual(runs, sorted(runs))
                self.assertEqual(len(runs), run_count(bits))
                self.assertEqual([nth_run(order, index) for index in range(len(runs))], runs)
                self.assertEqual([run_index(order, run) for run in runs], list(range(len(runs))))

    def test_first_and_last(self):
        chance = random.Random(71)
        for bits in (1, 2, 3, 4, 10, 15, 16):
            order = chance.sample(range(bits), bits)
            first = [(bit, 0, 0) for bit in order]
            last = [(bit, 2 ** bits - 1 - 2 ** bit, 1) for bit in order]
            self.assertEqual([nth_run(order, 0), run_index(order, first)], [first, 0])
            self.assertEqual([nth_run(order, 2 ** bits ** 2 - 1), run_index(order, last)], [last, 2 ** bits ** 2 - 1])

    def test_drawn_indices(self):
        chance = random.Random(72)
        for bits in (4, 7, 15, 16, 16, 16):
            order = chance.sample(range(bits), bits)
            indices = sorted({chance.randrange(2 ** bits ** 2) for _ in range(40)} | {1, 2, 2 ** bits, 2 ** bits ** 2 - 2})
            runs = [nth_run(order, index) for index in indices]
            self.assertEqual(runs, sorted(runs))
            for index, run in zip(indices, runs):
                self.assertEqual([stage[0] for stage in run], order)
                self.assertTrue(all(support.slow_is_stage(bits, stage) for stage in run))
                self.assertEqual(run_index(order, run), index)

    def test_stages_of_one_bit(self):
        for bits in (1, 2, 5, 11):
            for bit in range(bits):
                stages = support.stages_at(bits, bit)
                self.assertEqual([slow_stage_index(bits, stage) for stage in stages], list(range(2 ** bits)))

    def test_next_runs(self):
        chance = random.Random(73)
        order = chance.sample(range(16), 16)
        for _ in range(20):
            index = chance.randrange(2 ** 256 - 300)
            runs = [nth_run(order, index + more) for more in range(300)]
            self.assertEqual([run_index(order, run) for run in runs], list(range(index, index + 300)))
            self.assertTrue(all(one < other for one, other in itertools.pairwise(runs)))

    def test_drawn_runs(self):
        chance = random.Random(74)
        for bits in (5, 11, 16):
            for _ in range(20):
                order = chance.sample(range(bits), bits)
                run = support.some_run_along(order, chance)
                index = 0
                for stage in run:
                    index = index * 2 ** bits + slow_stage_index(bits, stage)
                self.assertEqual(run_index(order, run), index)
                self.assertEqual(nth_run(order, index), run)

    def test_kinds(self):
        for index in (0, 77, 511):
            run = nth_run([2, 0, 1], index)
            self.assertEqual({type(stage) for stage in run}, {tuple})
            self.assertEqual({type(item) for stage in run for item in stage}, {int})
            self.assertIs(type(run_index([2, 0, 1], run)), int)


class TooGreatTest(CaseWithLimits):

    def test_index(self):
        chance = random.Random(75)
        for bits in (1, 2, 3, 16):
            order = chance.sample(range(bits), bits)
            count = 2 ** bits ** 2
            self.assertEqual(len(nth_run(order, count - 1)), bits)
            for index in (count, count + 1, count * 2, 10 ** 79, 10 ** 400 - 1):
                self.check_number(nth_run, order, max(index, count))

    def test_bits_ahead_of_the_index(self):
        for bits in (17, 18, 50, 60):
            order = list(range(bits))
            for index in (0, 1, 2 ** bits ** 2 - 1, 2 ** bits ** 2, support.HUGE):
                self.check_limit(16, nth_run, order, index)
            for index in (-1, None, True, "1", [0], -support.HUGE):
                self.check_number(nth_run, order, index)


class NotAlongTest(CaseWithLimits):

    def check_run(self, index, order, run):
        self.assertEqual(support.outcome(run_index, order, run), (errors.InvalidRun, index))

    def test_not_along(self):
        chance = random.Random(76)
        for bits in (2, 3, 15, 16, 17, 60):
            order = chance.sample(range(bits), bits)
            run = support.some_run_along(order, chance)
            for other in (run[::-1], run[:-1], run[1:], run + [run[-1]], run + run, [], [run[0]] * bits, run[:-1] + [run[0]]):
                self.check_run(None, order, other)
        self.check_run(None, [0], [])
        self.check_run(None, [0], [(0, 0, 0), (0, 0, 0)])
        self.check_run(None, [0], [(0, 0, 0)] * 400)

    def test_wrong_stages_first(self):
        for item in samples.wrong_stages_of_three():
            self.check_run(0, [0, 1, 2], [item])
            self.check_run(2, [0, 1, 2], [(1, 0, 0), (2, 0, 0), item, None])
            self.check_run(1, [0, 1, 2], [(0, 0, 0), item, (2, 0, 0)])
            self.check_run(1, [0, 1, 2], [(0, 0, 0), item] + [(2, 0, 0)] * 398)
            self.check_run(None, [0, 1, 2], [(0, 0, 0), item] + [(2, 0, 0)] * 399)

    def test_run_ahead_of_the_bits(self):
        for bits in (17, 33, 60):
            order = list(range(bits))
            idle = [(bit, 0, 0) for bit in order]
            self.check_limit(16, run_index, order, idle)
            self.check_run(None, order, idle[::-1])
            self.check_run(None, order, idle[:-1])
            self.check_run(3, order, idle[:3] + [(3, 8, 0)] + idle[4:])
            self.check_run(None, order, None)


if __name__ == "__main__":
    unittest.main()
