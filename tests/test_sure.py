"""Promise [28]: ends that are sure, ends that are possible, and how many more are needed."""

import itertools
import random
import unittest

from bitstages import errors
from bitstages.seen import can_end, clash, ends_needed, sure_end
from tests import support
from tests.test_seen import few_ways, slow_agrees, ways_of


def slow_needed(bits, mappings):
    """The least number of further places that tell all ends, whichever of the mappings it is."""
    for size in range(bits + 2):
        for places in itertools.combinations(range(2 ** bits), size):
            told = {tuple(ends[place] for place in places) for ends in mappings}
            if len(told) == len(mappings):
                return size
    return None


class ExamplesTest(unittest.TestCase):

    def test_examples(self):
        self.assertEqual([sure_end(2, [(0, 0), (1, 2), (2, 1)], 3), sure_end(2, [(0, 0), (1, 2)], 3)], [3, None])
        self.assertEqual([can_end(2, [(0, 0), (1, 2)], 2, 1), can_end(2, [(0, 0), (1, 2)], 2, 2)], [True, False])
        self.assertEqual([ends_needed(60, []), ends_needed(2, [(0, 0), (1, 2)]), ends_needed(2, [(0, 0), (1, 2), (2, 1)])],
                         [61, 1, 0])
        self.assertEqual([ends_needed(1, []), ends_needed(1, [(1, 1)])], [1, 0])


class CaseOfEnds(unittest.TestCase):

    def check_impossible(self, bits, ways):
        for call, args in ((sure_end, [0]), (can_end, [0, 0]), (ends_needed, [])):
            self.assertEqual(support.outcome(call, bits, ways, *args), (errors.Impossible, "none"))


class FewBitsTest(CaseOfEnds):

    def test_against_all_mappings(self):
        for bits in (1, 2, 3):
            mappings = list(support.all_mappings(bits))
            every = [tuple(support.slow_end(mapping, place) for place in range(2 ** bits)) for mapping in mappings]
            needed = set()
            for ways in few_ways(bits):
                agreeing = [ends for ends in every if all(ends[place] == end for place, end in ways)]
                if not agreeing:
                    self.check_impossible(bits, ways)
                    continue
                for place in range(2 ** bits):
                    ends = sorted({each[place] for each in agreeing})
                    self.assertEqual(sure_end(bits, ways, place), ends[0] if len(ends) == 1 else None)
                    self.assertEqual([end for end in range(2 ** bits) if can_end(bits, ways, place, end)], ends)
                if len(agreeing) < 50 or len(ways) == 1:
                    needed.add(ends_needed(bits, ways))
                    self.assertEqual(ends_needed(bits, ways), slow_needed(bits, agreeing))
            self.assertLessEqual(set(range(bits)), needed)

    def test_one_bit(self):
        self.assertEqual([sure_end(1, [], place) for place in (0, 1)], [None, None])
        self.assertEqual([can_end(1, [], place, end) for place in (0, 1) for end in (0, 1)], [True] * 4)
        for place, end in itertools.product((0, 1), repeat=2):
            for ways in ([(place, end)], [(place, end)] * 2, [(place, end), (1 - place, 1 - end)]):
                self.assertEqual([sure_end(1, ways, place), sure_end(1, ways, 1 - place)], [end, 1 - end])
                self.assertEqual([can_end(1, ways, 1 - place, last) for last in (end, 1 - end)], [False, True])
                self.assertEqual(ends_needed(1, ways), 0)

    def test_kinds(self):
        self.assertIs(type(sure_end(2, [(0, 0)], 0)), int)
        self.assertIs(can_end(2, [(0, 0)], 1, 0), False)
        self.assertIs(type(ends_needed(1, [])), int)


class SixtyBitsTest(CaseOfEnds):

    def test_down_to_none(self):
        chance = random.Random(281)
        mapping = support.some_mapping(60, chance)
        places = [0] + [2 ** bit for bit in range(60)]
        shift = chance.randrange(2 ** 60)
        chance.shuffle(places)
        ways = ways_of(mapping, [place ^ shift for place in places])
        for many in range(62):
            self.assertEqual(ends_needed(60, ways[:many]), 61 - many)
            self.assertEqual(ends_needed(60, (ways[:many] * 2)[:100]), 61 - many)
        self.assertTrue(slow_agrees(mapping, ways))
        for place in support.some_places(60, chance, 10):
            self.assertEqual(sure_end(60, ways, place), support.slow_end(mapping, place))

    def test_drawn_ones(self):
        chance = random.Random(282)
        for many in (0, 1, 2, 7, 40, 60, 100):
            mapping = support.some_mapping(60, chance)
            ways = ways_of(mapping, [chance.randrange(2 ** 60) for _ in range(many)])
            for size in (1, 3, 5):
                if size <= many:
                    place = support.exclusive_or(way[0] for way in chance.sample(ways, size))
                    end = support.slow_end(mapping, place)
                    self.assertEqual(sure_end(60, ways, place), end)
                    self.assertIs(can_end(60, ways, place, end), True)
                    for other in (end ^ 1, end ^ 2 ** 59, 0, chance.randrange(2 ** 60)):
                        self.assertIs(can_end(60, ways, place, other), other == end)
            place = chance.randrange(2 ** 60)
            if many < 50:
                self.assertIs(sure_end(60, ways, place), None)
                self.assertIs(can_end(60, ways, place, support.slow_end(mapping, place)), True)
                self.assertIs(can_end(60, ways, place, chance.randrange(2 ** 60)), True)
                # The end of an exclusive or of three ways is taken by this one.
                for size in (1, 3):
                    if size <= many:
                        taken = support.exclusive_or(way[1] for way in chance.sample(ways, size))
                        self.assertIs(can_end(60, ways, place, taken), False)

    def test_two_ways_tell_no_third_end(self):
        ways = [(0, 0), (1, 2 ** 59)]
        self.assertEqual([sure_end(60, ways, place) for place in (0, 1, 2, 3)], [0, 2 ** 59, None, None])
        self.assertEqual([can_end(60, ways, 2, end) for end in (0, 1, 2 ** 59, 2 ** 59 + 1)], [False, True, False, True])

    def test_a_hundred_ways(self):
        """One further way makes 101, which is no error for the ways themselves."""
        chance = random.Random(283)
        mapping = support.some_mapping(60, chance)
        ways = ways_of(mapping, [chance.randrange(2 ** 20) for _ in range(100)])
        self.assertIs(clash(60, ways), None)
        self.assertIs(can_end(60, ways, 2 ** 59, support.slow_end(mapping, 2 ** 59)), True)
        self.assertIs(can_end(60, ways, 2 ** 59, ways[0][1]), False)
        self.assertIs(sure_end(60, ways, 2 ** 59), None)


class ErrorsTest(CaseOfEnds):

    def test_impossible(self):
        for bits, ways in ((1, [(0, 0), (1, 0)]), (1, [(0, 0), (0, 1)]), (2, [(0, 0), (1, 1), (2, 2), (3, 0)]),
                           (60, [(0, 0), (5, 0)]), (60, [(1, 1), (1, 2)]), (60, [(0, 0), (1, 1), (2, 2), (3, 7)]),
                           (60, [(0, 0), (1, 1), (2, 2), (7, 3)])):
            self.check_impossible(bits, ways)
            # It comes behind the errors of the parameters.
            for wrong in (2 ** bits, -1, None, True, support.HUGE, "0"):
                for call, args in ((sure_end, [wrong]), (can_end, [wrong, 0]), (can_end, [0, wrong]), (can_end, [wrong, None])):
                    self.assertEqual(support.outcome(call, bits, ways, *args), (errors.InvalidPlace, "none"))

    def test_wrong_ways(self):
        for call, args in ((sure_end, [9]), (can_end, [9, 9]), (ends_needed, [])):
            self.assertEqual(support.outcome(call, 3, [(1, 1), (2, 1), (1, 8)], *args), (errors.InvalidWays, 2))
            self.assertEqual(support.outcome(call, 3, [(1, 1)] * 101, *args), (errors.InvalidWays, None))
            self.assertEqual(support.outcome(call, 61, None, *args), (errors.InvalidBits, "none"))


if __name__ == "__main__":
    unittest.main()
