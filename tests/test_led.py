"""Promise [29]: runs along a known order that agree with ends that were seen."""

import itertools
import random
import unittest

from bitstages import errors
from bitstages.led import blocked, led_count, nth_led, shows_blocked, some_led
from bitstages.oneruns import nth_run, run_count
from tests import support


def all_runs(order):
    """All runs along an order, ascending, with the ends of all places."""
    bits = len(order)
    for stages in itertools.product(*[support.stages_at(bits, bit) for bit in order]):
        run = list(stages)
        yield run, [support.slow_walk(run, place) for place in range(2 ** bits)]


def fitting(runs, ways):
    """Of all runs with their ends those that lead each place to its end."""
    return [(run, ends) for run, ends in runs if all(ends[place] == end for place, end in ways)]


def ways_of(run, places):
    return [(place, support.slow_walk(run, place)) for place in places]


def place_ahead(order, number, way):
    """Where the value of a way is ahead of a stage: the bits of the earlier stages are those of its end."""
    place, end = way
    for bit in order[:number]:
        place = place & ~(1 << bit) | end & 1 << bit
    return place


def slow_block(order, ways, value):
    """Whether any value is a block, as it is defined."""
    if type(value) is not tuple or len(value) != 2:
        return False
    number, indices = value
    if type(number) is not int or not 0 <= number < len(order) or not support.is_index_list(indices, len(ways)):
        return False
    if len(indices) < 2 or len(indices) % 2:
        return False
    unit = 2 ** order[number]
    places = [place_ahead(order, number, ways[at]) & ~unit for at in indices]
    turned = [at for at in indices if ways[at][0] & unit != ways[at][1] & unit]
    return support.exclusive_or(places) == 0 and len(turned) % 2 == 1


def few_ways(order, chance, many):
    """Lists of ways: none, single ones, and drawn ones of a run, also with ways twice or with one end turned."""
    bits = len(order)
    yield []
    for place, end in itertools.product(range(2 ** bits), repeat=2):
        if bits < 3 or chance.random() < 0.2:
            yield [(place, end)]
            yield [(place, end)] * 2
    for turn in range(many):
        run = support.some_run_along(order, chance)
        size = 2 + turn % 4
        ways = ways_of(run, [chance.randrange(2 ** bits) for _ in range(size)])
        if turn % 3 == 1:
            ways[chance.randrange(size)] = (chance.randrange(2 ** bits), chance.randrange(2 ** bits))
        if turn % 3 == 2:
            ways[chance.randrange(size)] = ways[chance.randrange(size)]
        yield ways


class ExamplesTest(unittest.TestCase):

    def test_examples(self):
        self.assertIs(some_led([0, 1], [(0, 0), (1, 2)]), None)
        self.assertIs(shows_blocked([0, 1], [(0, 0), (1, 2)], (0, [0, 1])), True)
        self.assertIs(blocked([0, 1], [(0, 0), (2, 1)]), None)
        self.assertEqual([led_count([0, 1], [(0, 0), (2, 1)][:many]) for many in range(3)], [16, 4, 1])
        self.assertEqual(nth_led([0, 1], [(0, 0), (2, 1)], 0), [(0, 2, 0), (1, 1, 0)])


class CaseOfLed(unittest.TestCase):

    def check(self, order, ways, wanted):
        run, block = some_led(order, ways), blocked(order, ways)
        self.assertEqual([run is None, block is None], [not wanted, wanted], (order, ways))
        if wanted:
            self.assertEqual([stage[0] for stage in run], order)
            self.assertTrue(all(support.slow_is_stage(len(order), stage) for stage in run))
            self.assertEqual(ways_of(run, [place for place, _ in ways]), ways)
        else:
            self.assertTrue(slow_block(order, ways, block))
            self.assertIs(shows_blocked(order, ways, block), True)

    def check_too_great(self, order, ways, index):
        self.assertEqual(support.outcome(nth_led, order, ways, index), (errors.InvalidNumber, "none"))


class FewBitsTest(CaseOfLed):

    def test_against_all_runs(self):
        chance = random.Random(291)
        for bits, many in ((1, 20), (2, 60), (3, 40)):
            counts = set()
            for order in support.orders_of(bits):
                runs = list(all_runs(order))
                for ways in few_ways(order, chance, many):
                    found = [run for run, _ in fitting(runs, ways)]
                    self.assertEqual(found, sorted(found))
                    self.check(order, ways, found != [])
                    self.assertEqual(led_count(order, ways), len(found))
                    indices = range(len(found))
                    if len(found) > 20:
                        indices = [0, 1, 2, len(found) - 1] + [chance.randrange(len(found)) for _ in range(8)]
                    for index in indices:
                        self.assertEqual(nth_led(order, ways, index), found[index])
                    for index in (len(found), len(found) + 1, 10 ** 79, support.HUGE):
                        self.check_too_great(order, ways, index)
                    counts.add(len(found))
            self.assertEqual(counts, {1: {0, 1, 2}, 2: {0, 1, 2, 4, 16}}.get(bits, counts))
            self.assertTrue({0, 2 ** (bits * bits), 2 ** (bits * (bits - 1))} <= counts)

    def test_shows_all_blocks(self):
        chance = random.Random(292)
        seen = 0
        for bits in (1, 2, 3):
            for order in support.orders_of(bits):
                for ways in few_ways(order, chance, 15):
                    blocks = [(number, indices) for number in range(bits) for indices in support.subsets(len(ways))]
                    found = [block for block in blocks if shows_blocked(order, ways, block)]
                    self.assertEqual(found, [block for block in blocks if slow_block(order, ways, block)])
                    self.assertIs(found == [], some_led(order, ways) is not None)
                    seen += len(found)
        self.assertGreater(seen, 40)

    def test_all_runs_without_ways(self):
        for order in ([0], [1, 0], [2, 0, 1]):
            many = run_count(len(order))
            self.assertEqual([nth_led(order, [], index) for index in range(many)], [nth_run(order, index) for index in range(many)])


class ManyBitsTest(CaseOfLed):

    def test_sixty_bits(self):
        chance = random.Random(293)
        for many in (0, 1, 2, 30, 61, 100):
            order = chance.sample(range(60), 60)
            run = support.some_run_along(order, chance)
            ways = ways_of(run, [chance.randrange(2 ** 60) for _ in range(many)])
            self.check(order, ways, True)
            if many == 100:
                self.assertEqual(some_led(order, ways), run)
                for at, bit in ((0, 0), (99, 59), (50, order[0]), (7, order[59])):
                    place, end = ways[at]
                    self.check(order, ways[:at] + [(place, end ^ 2 ** bit)] + ways[at + 1:], False)
            if many:
                place, end = ways[0]
                self.check(order, ways + [(place, end ^ 2 ** order[30])] if many < 100 else [(place, 0), (place, 1)], False)

    def test_places_that_meet(self):
        """Two ways that meet behind a stage are blocked there: three that come one behind the other at sixty bits."""
        order = list(range(60))
        for number in (0, 1, 30, 59):
            ways = [(2 ** 59, 2 ** 59), (2 ** number, 0), (0, 0)]
            if number == 59:
                ways = [(5, 5), (2 ** 59, 0), (0, 0)]
            self.check(order, ways, False)
            self.assertEqual(blocked(order, ways), (number, [1, 2]))

    def test_counts(self):
        chance = random.Random(294)
        for bits in (4, 16, 49, 50):
            order = chance.sample(range(bits), bits)
            run = support.some_run_along(order, chance)
            ways = ways_of(run, [chance.randrange(2 ** bits) for _ in range(100)])
            self.assertEqual(led_count(order, []), 2 ** (bits * bits))
            self.assertEqual(led_count(order, ways[:1]), 2 ** (bits * (bits - 1)))
            self.assertEqual(led_count(order, [ways[0]] * 100), 2 ** (bits * (bits - 1)))
            # Ahead of each stage the places tell as many of the bits of the stage as they are independent.
            for many in (2, 3, bits, 100):
                known = 0
                for number, bit in enumerate(order):
                    places = [place_ahead(order, number, way) & ~2 ** bit for way in ways[:many]]
                    known += support.slow_rank([2 ** bits + place for place in places])
                self.assertEqual(led_count(order, ways[:many]), 2 ** (bits * bits - known))
            self.assertEqual(led_count(order, ways), 1)
            self.assertEqual(led_count(order, ways[:50] + [(ways[0][0], ways[0][1] ^ 1)]), 0)

    def test_sixteen_bits(self):
        chance = random.Random(295)
        for many in (0, 1, 3, 10):
            order = chance.sample(range(16), 16)
            run = support.some_run_along(order, chance)
            ways = ways_of(run, [chance.randrange(2 ** 16) for _ in range(many)])
            count = led_count(order, ways)
            indices = sorted({0, 1, 2, 3, count // 2, count - 2, count - 1} | {chance.randrange(count) for _ in range(9)})
            runs = [nth_led(order, ways, index) for index in indices]
            for each in runs:
                self.assertEqual([stage[0] for stage in each], order)
                self.assertEqual(ways_of(each, [place for place, _ in ways]), ways)
            for at in range(1, len(runs)):
                self.assertLess(runs[at - 1], runs[at])
            self.assertIs(type(count), int)
            for index in (count, count + 1, support.HUGE):
                self.check_too_great(order, ways, index)
            if many == 0:
                self.assertEqual(runs, [nth_run(order, index) for index in indices])

    def test_the_index_of_a_drawn_run(self):
        """A run has as its index the number of the runs that are less, by halving."""
        chance = random.Random(296)
        order = chance.sample(range(16), 16)
        run = support.some_run_along(order, chance)
        ways = ways_of(run, [chance.randrange(2 ** 16) for _ in range(6)])
        low, high = 0, led_count(order, ways) - 1
        while low < high:
            middle = (low + high) // 2
            if nth_led(order, ways, middle) < run:
                low = middle + 1
            else:
                high = middle
        self.assertEqual(nth_led(order, ways, low), run)


class ShowsTest(unittest.TestCase):

    def test_any_value(self):
        for ways in ([], [(0, 0)], [(0, 0), (1, 2)], [(0, 0), (2, 1)], [(0, 1), (0, 1), (0, 2)]):
            for value in support.odd_values():
                for told in (value, (0, value), (value, [0, 1]), (value, value), [0, value], (0, [0, 1], value)):
                    self.assertIs(shows_blocked([0, 1], ways, told), slow_block([0, 1], ways, told), told)

    def test_nearly_a_block(self):
        order, ways = [1, 0], [(0, 0), (2, 1), (1, 3), (2, 2), (0, 3), (3, 0), (0, 0)]
        found = [(number, indices) for number in range(2) for indices in support.subsets(7)
                 if shows_blocked(order, ways, (number, indices))]
        self.assertEqual(found, [(number, indices) for number in range(2) for indices in support.subsets(7)
                                 if slow_block(order, ways, (number, indices))])
        self.assertIn((0, [0, 1]), found)
        for value in ([0, [0, 1]], (0, [0, 1], 0), (0,), ([0, 1], 0), (0, (0, 1)), (0, [1, 0]), (0, [0, 0]), (0, [0]), (0, []),
                      (0, [0, 1, 1]), (0, [0, 1, 6]), (0, [0, 7]), (0, [-1, 1]), (0, [0, True]), (0, [False, 1]), (False, [0, 1]),
                      (True, [0, 1]), (2, [0, 1]), (-1, [0, 1]), (None, [0, 1]), (0, None), (0, "01"), ("0", [0, 1]), (0, [0, None]),
                      (support.HUGE, [0, 1]), (0, [0, support.HUGE]), (0, [[0, 1]]), (0, {"0": 1}), (0, [0, 1] * 600), ()):
            self.assertIs(shows_blocked(order, ways, value), False, value)
        self.assertIs(shows_blocked(order, ways, (0, [0, 1])), True)

    def test_wide_blocks(self):
        chance = random.Random(297)
        order = chance.sample(range(60), 60)
        run = support.some_run_along(order, chance)
        # The places ahead of the first stage of four ways make 0, however the ends are.
        places = [chance.randrange(2 ** 60) for _ in range(3)]
        places.append(support.exclusive_or(places))
        ways = ways_of(run, places)
        self.assertIs(shows_blocked(order, ways, (0, [0, 1, 2, 3])), False)
        ways[2] = (ways[2][0], ways[2][1] ^ 2 ** order[0])
        self.assertEqual(blocked(order, ways), (0, [0, 1, 2, 3]))
        for value in ((0, [0, 1, 2]), (0, [0, 1]), (1, [0, 1, 2, 3]), (0, [3, 2, 1, 0])):
            self.assertIs(shows_blocked(order, ways, value), slow_block(order, ways, value))
        self.assertIs(shows_blocked(order, ways, (0, [0, 1, 2, 3])), True)


class ErrorsTest(unittest.TestCase):

    def test_counts_of_many_bits(self):
        for bits in range(51, 61):
            for ways in ([], [(0, 0)], [(0, 0), (0, 1)]):
                self.assertEqual(support.limit_of(led_count, list(range(bits)), ways), 50)
            self.assertEqual(support.outcome(led_count, list(range(bits)), [None]), (errors.InvalidWays, 0))

    def test_numbering_of_many_bits(self):
        for bits in (17, 18, 50, 60):
            order = list(range(bits))
            for ways in ([], [(0, 0)], [(0, 0), (0, 1)], [(1, 1)] * 100):
                for index in (0, 1, 10 ** 79, support.HUGE):
                    self.assertEqual(support.limit_of(nth_led, order, ways, index), 16)
                for index in (-1, None, True, "0", -support.HUGE):
                    self.assertEqual(support.outcome(nth_led, order, ways, index), (errors.InvalidNumber, "none"))
            self.assertEqual(support.outcome(nth_led, order, [(0, 2 ** bits)], 0), (errors.InvalidWays, 0))

    def test_no_run_agrees(self):
        for order, ways in (([0], [(0, 0), (0, 1)]), ([0, 1], [(0, 0), (1, 2)]), (list(range(16)), [(0, 0), (1, 0)])):
            self.assertEqual(led_count(order, ways), 0)
            for index in (0, 1, 5, 10 ** 79, -1, None):
                self.assertEqual(support.outcome(nth_led, order, ways, index), (errors.InvalidNumber, "none"))


if __name__ == "__main__":
    unittest.main()
