"""Promise [17]: stages and runs, what they move and which mappings they make."""

import itertools
import random
import unittest

from bitstages.errors import InvalidOrder, InvalidRun
from bitstages.mappings import end_of, then
from bitstages.stages import busy_count, is_along, is_run, is_stage, places_on, run_mapping, shows_run, turned_run
from tests import samples, support

SWAP = ([2, 1], 0)
THREE = [(1, 1, 0), (0, 2, 0), (1, 1, 0)]


def runs_of_few_bits(many=40):
    """All runs of at most two stages of one and two bits, and some of more bits."""
    found = []
    for bits in (1, 2):
        every = [stage for bit in range(bits) for stage in support.stages_at(bits, bit)]
        for size in (0, 1, 2):
            found += [(bits, list(run)) for run in itertools.product(every, repeat=size)]
    chance = random.Random(51)
    for bits in (1, 2, 3, 4, 5):
        found += [(bits, support.some_run(bits, chance.randrange(12), chance)) for _ in range(many)]
    return found


def long_runs():
    chance = random.Random(52)
    for bits in (60, 60, 59, 31):
        yield bits, support.some_run(bits, 400, chance)
    yield 60, [(59, 2 ** 59 - 1, 1)] * 400
    yield 60, [(0, 2 ** 60 - 2, 0)] * 399
    yield 60, [(bit, 0, 1) for bit in range(60)]


class ExamplesTest(unittest.TestCase):

    def test_examples(self):
        self.assertEqual(run_mapping(2, THREE), SWAP)
        self.assertEqual(places_on(2, THREE, 1), [1, 3, 2, 2])
        self.assertEqual(turned_run(2, THREE[:2]), [(0, 2, 0), (1, 1, 0)])
        self.assertEqual(busy_count(2, [(0, 0, 0), (1, 1, 0)]), 1)
        self.assertEqual([is_stage(2, (0, 1, 0)), is_stage(2, (0, 2, 1))], [False, True])
        self.assertIs(is_along([0, 1], [(0, 2, 0), (1, 0, 1)]), True)
        self.assertIs(shows_run(SWAP, THREE), True)


class IsStageTest(unittest.TestCase):

    def test_any_value(self):
        for bits in (1, 3, 60):
            for value in support.odd_values():
                self.assertIs(is_stage(bits, value), False, value)

    def test_all_of_few_bits(self):
        flips = (-1, 0, 1, 2, True, False, None)
        for bits in (1, 2, 3):
            found = 0
            marks = [None, True, False, "0", [0]]
            for value in itertools.product([*range(-1, bits + 2), *marks], [*range(-1, 2 ** bits + 2), *marks], flips):
                self.assertIs(is_stage(bits, value), support.slow_is_stage(bits, value), value)
                found += is_stage(bits, value)
            self.assertEqual(found, bits * 2 ** bits)

    def test_nearly(self):
        for value in samples.wrong_stages_of_three():
            self.assertIs(is_stage(3, value), False, value)
        for value in ((0, 0, 0), (0, 6, 1), (1, 5, 0), (2, 3, 1), (2, 0, 1)):
            self.assertIs(is_stage(3, value), True)
            self.assertIs(is_stage(3, list(value)), False)
            self.assertIs(is_stage(3, value + (0,)), False)
            self.assertIs(is_stage(3, value[:2]), False)
            self.assertIs(is_stage(3, [value]), False)

    def test_many_bits(self):
        whole = 2 ** 60 - 1
        for bit in range(60):
            self.assertIs(is_stage(60, (bit, whole ^ 2 ** bit, 1)), True)
            self.assertIs(is_stage(60, (bit, whole, 1)), False)
            self.assertIs(is_stage(60, (bit, 2 ** bit, 0)), False)
            self.assertIs(is_stage(60, (bit, 2 ** 60, 0)), False)
        self.assertIs(is_stage(60, (60, 0, 0)), False)
        self.assertIs(is_stage(59, (0, 2 ** 59, 0)), False)


class IsRunTest(unittest.TestCase):

    def test_any_value(self):
        for bits in (1, 3, 60):
            for value in support.odd_values():
                self.assertIs(is_run(bits, value), value == [] and type(value) is list, value)

    def test_lengths(self):
        stage = (1, 5, 1)
        for many in (0, 1, 3, 399, 400):
            self.assertIs(is_run(3, [stage] * many), True)
        for many in (401, 402, 2500):
            self.assertIs(is_run(3, [stage] * many), False)
        self.assertIs(is_run(3, (stage, stage)), False)
        self.assertIs(is_run(3, ()), False)
        self.assertIs(is_run(3, stage), False)
        self.assertIs(is_run(3, {"0": stage}), False)

    def test_wrong_items(self):
        for item in samples.wrong_stages_of_three():
            for value in ([item], [(0, 2, 0), item], [item, (0, 2, 0)], [(0, 2, 0)] * 399 + [item]):
                self.assertIs(is_run(3, value), False, item)

    def test_other_bits(self):
        self.assertEqual([is_run(bits, THREE) for bits in (1, 2, 3, 60)], [False, True, True, True])
        for bits, run in long_runs():
            self.assertIs(is_run(bits, run), True)
            self.assertIs(is_run(bits - 1, run), False)


class RunMappingTest(unittest.TestCase):

    def test_by_walking(self):
        for bits, run in runs_of_few_bits():
            mapping = run_mapping(bits, run)
            self.assertTrue(support.slow_is_mapping(mapping))
            self.assertEqual(len(mapping[0]), bits)
            for place in range(2 ** bits):
                self.assertEqual(support.slow_end(mapping, place), support.slow_walk(run, place))

    def test_many_bits(self):
        chance = random.Random(53)
        for bits, run in long_runs():
            mapping = run_mapping(bits, run)
            self.assertEqual(len(mapping[0]), bits)
            for place in support.some_places(bits, chance, 12):
                self.assertEqual(support.slow_end(mapping, place), support.slow_walk(run, place))
            self.assertEqual(mapping, support.slow_mapping(bits, run))

    def test_empty_run(self):
        for bits in range(1, 61):
            identity = ([2 ** bit for bit in range(bits)], 0)
            self.assertEqual(run_mapping(bits, []), identity)
            self.assertEqual(run_mapping(bits, [(bits - 1, 0, 0)] * 400), identity)

    def test_kinds(self):
        for bits, run in runs_of_few_bits(5):
            rows, offset = run_mapping(bits, run)
            self.assertEqual({type(item) for item in rows + [offset]}, {int})


class PlacesOnTest(unittest.TestCase):

    def check(self, bits, run, place):
        walked = [place]
        for stage in run:
            walked.append(support.slow_move(stage, walked[-1]))
        self.assertEqual(places_on(bits, run, place), walked)
        self.assertEqual({type(item) for item in places_on(bits, run, place)}, {int})

    def test_few_bits(self):
        for bits, run in runs_of_few_bits():
            for place in range(2 ** bits):
                self.check(bits, run, place)

    def test_many_bits(self):
        chance = random.Random(54)
        for bits, run in long_runs():
            for place in support.some_places(bits, chance, 6):
                self.check(bits, run, place)
                self.assertEqual(places_on(bits, run, place)[-1], end_of(run_mapping(bits, run), place))

    def test_empty_run(self):
        self.assertEqual([places_on(1, [], 0), places_on(60, [], 2 ** 60 - 1)], [[0], [2 ** 60 - 1]])


class TurnedRunTest(unittest.TestCase):

    def test_sequence(self):
        for bits, run in runs_of_few_bits():
            turned = turned_run(bits, run)
            self.assertEqual(turned, list(reversed(run)))
            self.assertIsNot(turned, run)
            for place in range(2 ** bits):
                self.assertEqual(support.slow_walk(turned, support.slow_walk(run, place)), place)

    def test_inverse(self):
        for bits, run in itertools.chain(runs_of_few_bits(10), long_runs()):
            identity = ([2 ** bit for bit in range(bits)], 0)
            there, back = run_mapping(bits, run), run_mapping(bits, turned_run(bits, run))
            self.assertEqual([then(there, back), then(back, there)], [identity, identity])


class BusyCountTest(unittest.TestCase):

    def test_few_bits(self):
        for bits, run in runs_of_few_bits():
            self.assertEqual(busy_count(bits, run), sum(stage[1:] != (0, 0) for stage in run))

    def test_idle_stages(self):
        self.assertEqual(busy_count(3, []), 0)
        self.assertEqual(busy_count(3, [(0, 0, 0), (1, 0, 0), (2, 0, 0)]), 0)
        self.assertEqual(busy_count(3, [(0, 0, 1), (1, 0, 0), (2, 1, 0), (2, 3, 1)]), 3)
        self.assertEqual(busy_count(60, [(0, 2 ** 59, 0)] * 400), 400)
        self.assertEqual(busy_count(60, [(0, 0, 0)] * 400), 0)
        self.assertEqual(busy_count(60, [(0, 0, 0), (0, 0, 1)] * 200), 200)


class IsAlongTest(unittest.TestCase):

    def test_all_of_few_bits(self):
        for bits in (1, 2, 3):
            chance = random.Random(55)
            for size in range(bits + 2):
                for sequence in itertools.product(range(bits), repeat=size):
                    run = [support.some_stage(bits, bit, chance) for bit in sequence]
                    for order in support.orders_of(bits):
                        self.assertIs(is_along(order, run), list(sequence) == order)

    def test_many_bits(self):
        chance = random.Random(56)
        for bits in (2, 16, 17, 59, 60):
            order = chance.sample(range(bits), bits)
            run = support.some_run_along(order, chance)
            self.assertIs(is_along(order, run), True)
            self.assertIs(is_along(order, [(bit, 0, 0) for bit in order]), True)
            self.assertIs(is_along(order, run[:-1]), False)
            self.assertIs(is_along(order, run[1:]), False)
            self.assertIs(is_along(order, run + [run[-1]]), False)
            self.assertIs(is_along(order, run + run), False)
            self.assertIs(is_along(order, run[::-1]), False)
            self.assertIs(is_along(order, run[1:] + run[:1]), False)
            self.assertIs(is_along(order, run[:-1] + [run[0]]), False)
            self.assertIs(is_along(order, []), False)
            self.assertIs(is_along(order, (run * 400)[:400]), False)

    def test_bits_of_the_order(self):
        self.assertEqual(support.outcome(is_along, [0], [(0, 0, 0), (1, 0, 0)]), (InvalidRun, 1))
        self.assertEqual(support.outcome(is_along, [1, 0], [(1, 0, 0), (0, 4, 0)]), (InvalidRun, 1))
        self.assertEqual(support.outcome(is_along, [1, 0], [(1, 0, 0)] * 401), (InvalidRun, None))
        self.assertEqual(support.outcome(is_along, [1], [(1, 0, 0)]), (InvalidOrder, "none"))


class ShowsRunTest(unittest.TestCase):

    def test_any_value(self):
        for mapping in (SWAP, ([1], 1), ([1, 2, 4], 5)):
            for value in support.odd_values():
                self.assertIs(shows_run(mapping, value), False, value)
        for value in support.odd_values():
            self.assertIs(shows_run(([1, 2, 4], 0), value), value == [] and type(value) is list)

    def test_by_walking(self):
        chance = random.Random(57)
        for bits, run in runs_of_few_bits(15):
            for mapping in (support.slow_mapping(bits, run), support.some_mapping(bits, chance)):
                makes = all(support.slow_walk(run, place) == support.slow_end(mapping, place) for place in range(2 ** bits))
                self.assertIs(shows_run(mapping, run), makes)

    def test_other_mappings(self):
        for bits, run in long_runs():
            rows, offset = support.slow_mapping(bits, run)
            self.assertIs(shows_run((rows, offset), run), True)
            self.assertIs(shows_run((rows, offset ^ 1), run), False)
            self.assertIs(shows_run((rows, offset ^ 2 ** (bits - 1)), run), False)
            self.assertIs(shows_run((rows[1:] + rows[:1], offset), run), False)
            self.assertIs(shows_run((rows, offset), run[:-1] + [(0, 0, 1)]), False)
            self.assertIs(shows_run((rows, offset), tuple(run)), False)

    def test_nearly(self):
        self.assertIs(shows_run(SWAP, THREE[:2]), False)
        self.assertIs(shows_run(SWAP, THREE + [(0, 0, 0)]), True)
        self.assertIs(shows_run(SWAP, THREE * 3), True)
        self.assertIs(shows_run(SWAP, THREE * 2), False)
        self.assertIs(shows_run(SWAP, THREE + [(0, 0, 0)] * 397), True)
        self.assertIs(shows_run(SWAP, THREE + [(0, 0, 0)] * 398), False)
        self.assertIs(shows_run(SWAP, [list(stage) for stage in THREE]), False)
        self.assertIs(shows_run(SWAP, THREE + [(2, 0, 0)]), False)
        self.assertIs(shows_run(SWAP, THREE + [(0, 0, False)]), False)
        self.assertIs(shows_run(([1, 2], 0), [(0, 0, 1), (0, 0, True)]), False)
        self.assertIs(shows_run(SWAP, [(1, 1, 0), (False, 2, 0), (1, 1, 0)]), False)
        self.assertIs(shows_run(SWAP, [(True, 1, 0), (0, 2, 0), (1, 1, 0)]), False)
        self.assertIs(shows_run(SWAP, THREE + [None]), False)


if __name__ == "__main__":
    unittest.main()
