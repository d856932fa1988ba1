"""Promise [30]: where runs that agree lead a place, and at which stage they part."""

import random
import unittest

from bitstages import errors
from bitstages.led import can_lead, first_open, led_end, some_led
from tests import support
from tests.test_led import all_runs, few_ways, fitting, place_ahead, ways_of


def slow_open(order, found, place):
    """The number of the first stage at which some of these runs turn the bit of the place and others do not.

    As no other stage is at this bit, its end tells whether it was turned.
    """
    for number, bit in enumerate(order):
        if len({ends[place] >> bit & 1 for _, ends in found}) > 1:
            return number
    return None


class ExamplesTest(unittest.TestCase):

    def test_examples(self):
        self.assertEqual([led_end([0, 1], [(0, 0), (2, 1)], 3), led_end([0, 1], [(0, 0)], 1)], [2, None])
        self.assertEqual(first_open([0, 1], [(0, 0)], 1), 1)
        self.assertEqual([can_lead([0, 1], [(0, 0)], 1, 3), can_lead([0, 1], [(0, 0)], 1, 2)], [True, False])


class CaseOfEnds(unittest.TestCase):

    def check_impossible(self, order, ways):
        for call, args in ((led_end, [0]), (first_open, [0]), (can_lead, [0, 0])):
            self.assertEqual(support.outcome(call, order, ways, *args), (errors.Impossible, "none"))


class FewBitsTest(CaseOfEnds):

    def check_all(self, order, ways, found):
        bits = len(order)
        for place in range(2 ** bits):
            ends = sorted({ends[place] for _, ends in found})
            self.assertEqual(led_end(order, ways, place), ends[0] if len(ends) == 1 else None)
            self.assertEqual([end for end in range(2 ** bits) if can_lead(order, ways, place, end)], ends)
            number = first_open(order, ways, place)
            self.assertEqual(number, slow_open(order, found, place))
            self.assertIs(number is None, len(ends) == 1)

    def test_against_all_runs(self):
        chance = random.Random(301)
        impossible = 0
        for bits, many in ((1, 20), (2, 40), (3, 12)):
            for order in support.orders_of(bits):
                runs = list(all_runs(order))
                for ways in few_ways(order, chance, many):
                    found = fitting(runs, ways)
                    if found:
                        self.check_all(order, ways, found)
                    else:
                        impossible += 1
                        self.check_impossible(order, ways)
        self.assertGreater(impossible, 20)

    def test_one_bit(self):
        self.assertEqual([led_end([0], [], 0), first_open([0], [], 1), can_lead([0], [], 0, 1)], [None, 0, True])
        for place, end in ((0, 0), (0, 1), (1, 0), (1, 1)):
            ways = [(place, end)]
            self.assertEqual([led_end([0], ways, at) for at in (place, 1 - place)], [end, 1 - end])
            self.assertEqual([first_open([0], ways, at) for at in (0, 1)], [None, None])
            self.assertEqual([can_lead([0], ways, 1 - place, at) for at in (end, 1 - end)], [False, True])

    def test_kinds(self):
        self.assertEqual([type(led_end([0, 1], [(0, 0)], 0)), type(first_open([0, 1], [], 0))], [int, int])
        self.assertIs(can_lead([0, 1], [], 0, 0), True)


class SixtyBitsTest(CaseOfEnds):

    def test_seen_places(self):
        chance = random.Random(302)
        for many in (1, 2, 50, 99, 100):
            order = chance.sample(range(60), 60)
            run = support.some_run_along(order, chance)
            ways = ways_of(run, [chance.randrange(2 ** 60) for _ in range(many)])
            for place, end in (ways[0], ways[-1]):
                self.assertEqual(led_end(order, ways, place), end)
                self.assertIs(first_open(order, ways, place), None)
                for other in (end, end ^ 1, end ^ 2 ** 59, 0):
                    self.assertIs(can_lead(order, ways, place, other), other == end)

    def test_told_by_a_hundred(self):
        chance = random.Random(303)
        order = chance.sample(range(60), 60)
        run = support.some_run_along(order, chance)
        ways = ways_of(run, [chance.randrange(2 ** 60) for _ in range(100)])
        self.assertEqual(some_led(order, ways), run)
        for place in support.some_places(60, chance, 8):
            end = support.slow_walk(run, place)
            self.assertEqual([led_end(order, ways, place), first_open(order, ways, place)], [end, None])
            self.assertIs(can_lead(order, ways, place, end), True)
            self.assertIs(can_lead(order, ways, place, end ^ 2 ** order[-1]), False)

    def test_where_it_parts(self):
        """By comparing ranks: a stage is open for a place if no exclusive or of places ahead of it tells it."""
        chance = random.Random(304)
        parted = set()
        for turn in range(40):
            bits = chance.choice((5, 6, 60))
            order = chance.sample(range(bits), bits)
            run = support.some_run_along(order, chance)
            few = [chance.randrange(2 ** bits) for _ in range(chance.randrange(1, 6))]
            ways = ways_of(run, few)
            # An exclusive or of three places goes on with theirs until a stage tells them apart.
            place = support.exclusive_or(chance.choice(few) for _ in range(3))
            if turn % 2:
                place ^= 2 ** chance.choice(order[:2])
            now, wanted = place, None
            for number, stage in enumerate(run):
                unit = 2 ** stage[0]
                told = [2 ** bits + (place_ahead(order, number, way) & ~unit) for way in ways]
                if support.slow_rank(told + [2 ** bits + (now & ~unit)]) > support.slow_rank(told):
                    wanted = number
                    break
                now = support.slow_move(stage, now)
            self.assertEqual(first_open(order, ways, place), wanted)
            self.assertEqual(led_end(order, ways, place), now if wanted is None else None)
            self.assertIs(can_lead(order, ways, place, support.slow_walk(run, place)), True)
            if wanted is not None:
                for bit in order[:wanted]:
                    self.assertIs(can_lead(order, ways, place, support.slow_walk(run, place) ^ 2 ** bit), False)
            parted.add(wanted)
        self.assertTrue({None, 0, 1} <= parted)

    def test_no_ways(self):
        chance = random.Random(305)
        order = chance.sample(range(60), 60)
        for place in support.some_places(60, chance, 3):
            self.assertEqual([led_end(order, [], place), first_open(order, [], place)], [None, 0])
            for end in support.some_places(60, chance, 3):
                self.assertIs(can_lead(order, [], place, end), True)

    def test_fewer_ways_tell_it(self):
        """Places with an even number of bits 1 tell each stage of a run that makes the identity, so all ends."""
        order = list(range(60))
        ways = [(0, 0)] + [(3 << bit, 3 << bit) for bit in range(59)]
        for place in (1, 2 ** 59, 7, 5 ** 25):
            self.assertEqual([led_end(order, ways, place), first_open(order, ways, place)], [place, None])
            self.assertEqual([can_lead(order, ways, place, end) for end in (place, place ^ 1)], [True, False])
        self.assertEqual(some_led(order, ways), [(bit, 0, 0) for bit in order])
        # Without the last one only the last stage is open for a single bit.
        self.assertEqual([first_open(order, ways[:-1], place) for place in (1, 2 ** 58, 2 ** 59, 3)], [59, 59, 0, None])
        self.assertEqual([can_lead(order, ways[:-1], 1, end) for end in (0, 1, 2, 2 ** 59 + 1)], [False, True, False, True])
        self.assertEqual([first_open(order[::-1], ways[:1], place) for place in (2 ** 59, 1, 0)], [1, 0, None])


class ErrorsTest(CaseOfEnds):

    def test_impossible(self):
        wide = list(range(60))
        for order, ways in (([0], [(0, 0), (0, 1)]), ([0, 1], [(0, 0), (1, 2)]), (wide, [(0, 0), (1, 0)]), (wide, [(3, 1), (3, 2)]),
                            (wide, [(0, 0), (2 ** 59, 0)])):
            self.check_impossible(order, ways)
            # It comes behind the errors of the parameters.
            for wrong in (2 ** len(order), -1, None, True, support.HUGE, "0", [0]):
                for call, args in ((led_end, [wrong]), (first_open, [wrong]), (can_lead, [wrong, 0]), (can_lead, [0, wrong]),
                                   (can_lead, [wrong, wrong])):
                    self.assertEqual(support.outcome(call, order, ways, *args), (errors.InvalidPlace, "none"))

    def test_wrong_ways(self):
        for call, args in ((led_end, [9]), (first_open, [9]), (can_lead, [9, 9])):
            self.assertEqual(support.outcome(call, [0, 2, 1], [(1, 1), (2, 1), (1, 8)], *args), (errors.InvalidWays, 2))
            self.assertEqual(support.outcome(call, [0, 2, 1], [(1, 1)] * 101, *args), (errors.InvalidWays, None))
            self.assertEqual(support.outcome(call, [0, 2, 2], None, *args), (errors.InvalidOrder, "none"))


if __name__ == "__main__":
    unittest.main()
