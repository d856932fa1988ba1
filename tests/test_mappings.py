"""Promise [15]: mappings, their ends, and mappings made from others."""

import itertools
import random
import unittest

from bitstages.errors import InvalidMapping, InvalidNumber, UnlikeBits
from bitstages.mappings import begin_of, end_of, inverse, is_mapping, power, rotation, then
from tests import support

SWAP = ([2, 1], 0)
GRAY = ([3, 6, 4], 0)
KNOT = ([7, 3, 5], 0)


def ends(mapping):
    return [support.slow_end(mapping, place) for place in range(2 ** len(mapping[0]))]


def few_mappings(many=40):
    """All mappings of one and two bits, and some of more bits."""
    chance = random.Random(31)
    found = list(support.all_mappings(1)) + list(support.all_mappings(2))
    return found + [support.some_mapping(bits, chance) for bits in (3, 4, 5) for _ in range(many)]


def wide_mappings():
    chance = random.Random(32)
    units = [2 ** bit for bit in range(60)]
    yield units, 0
    yield units[::-1], 2 ** 60 - 1
    yield [3 << bit for bit in range(59)] + [2 ** 59], 2 ** 59 + 1
    for _ in range(4):
        yield support.some_mapping(60, chance)


class CaseWithMappings(unittest.TestCase):

    def check_mapping(self, mapping, bits):
        """A mapping that was returned is one, of integers that are no bools."""
        self.assertIs(type(mapping), tuple)
        self.assertEqual(len(mapping), 2)
        self.assertIs(type(mapping[0]), list)
        self.assertEqual({type(item) for item in mapping[0] + [mapping[1]]}, {int})
        self.assertEqual(len(mapping[0]), bits)
        self.assertTrue(support.slow_is_mapping(mapping))


class ExamplesTest(unittest.TestCase):

    def test_examples(self):
        values = [SWAP, ([1, 1], 0), ([1], 2), ([], 0), [[1], 0], ([3, 1], 3)]
        self.assertEqual([is_mapping(value) for value in values], [True, False, False, False, False, True])
        self.assertEqual([end_of(GRAY, 5), begin_of(GRAY, 7)], [7, 5])
        self.assertEqual(then(SWAP, SWAP), ([1, 2], 0))
        self.assertEqual(inverse(GRAY), ([7, 6, 4], 0))
        self.assertEqual(power(GRAY, 2), ([5, 2, 4], 0))
        self.assertEqual(power(GRAY, -10 ** 30), ([1, 2, 4], 0))


class IsMappingTest(unittest.TestCase):

    def test_any_value(self):
        for value in support.odd_values():
            self.assertIs(is_mapping(value), False, value)

    def test_all_of_few_bits(self):
        for bits, many in ((1, 2), (2, 24)):
            found = 0
            for rows in itertools.product(range(-1, 2 ** bits + 2), repeat=bits):
                for offset in range(-1, 2 ** bits + 2):
                    value = (list(rows), offset)
                    self.assertIs(is_mapping(value), support.slow_is_mapping(value), value)
                    found += is_mapping(value)
            self.assertEqual(found, many)

    def test_all_of_three_bits(self):
        found = 0
        for rows in itertools.product(range(9), repeat=3):
            for offset in (0, 7, 8):
                value = (list(rows), offset)
                self.assertIs(is_mapping(value), support.slow_is_mapping(value), value)
                found += is_mapping(value)
        self.assertEqual(found, 168 * 2)

    def test_nearly(self):
        for value in (([1, 2], False), ([True, 2], 0), ([1, 2], None), ([1, "2"], 0), ([1, [2]], 0), ((1, 2), 0), ([1, 2],),
                      ([1, 2], 0, 0), [[1, 2], 0], ([1, 2], [0]), ([1, 2], "0"), ({"0": 1}, 0), ("12", 0), ([1], True),
                      ([0], 0), ([1, 2, None], 0), ([1, 2], -1), ([1, 2], 4), ([1, 4], 0), ([2, 3, 1], 0), (12, 0)):
            self.assertIs(is_mapping(value), False, value)

    def test_many_bits(self):
        units = [2 ** bit for bit in range(61)]
        self.assertIs(is_mapping((units[:60], 2 ** 60 - 1)), True)
        self.assertIs(is_mapping((units[:60], 2 ** 60)), False)
        self.assertIs(is_mapping((units, 0)), False)
        self.assertIs(is_mapping((units[:59] + [2 ** 60 - 1], 0)), True)
        self.assertIs(is_mapping((units[:59] + [2 ** 59 - 1], 0)), False)
        self.assertIs(is_mapping(([3 << bit for bit in range(59)] + [2 ** 59 + 1], 0)), False)
        for mapping in wide_mappings():
            self.assertIs(is_mapping(mapping), True)


class EndsTest(CaseWithMappings):

    def test_all_places_of_few_bits(self):
        for mapping in few_mappings() + list(support.all_mappings(3)):
            places = range(2 ** len(mapping[0]))
            found = [end_of(mapping, place) for place in places]
            self.assertEqual(found, ends(mapping))
            self.assertEqual(sorted(found), list(places))
            self.assertEqual([begin_of(mapping, end) for end in found], list(places))

    def test_many_bits(self):
        chance = random.Random(33)
        for mapping in wide_mappings():
            for place in support.some_places(60, chance, 10) + [2 ** bit for bit in range(60)]:
                end = end_of(mapping, place)
                self.assertEqual(end, support.slow_end(mapping, place))
                self.assertEqual(begin_of(mapping, end), place)
                self.assertEqual(support.slow_end(mapping, begin_of(mapping, place)), place)


class ThenTest(CaseWithMappings):

    def test_by_place(self):
        for first, second in itertools.product(support.all_mappings(2), repeat=2):
            both = then(first, second)
            self.check_mapping(both, 2)
            self.assertEqual(ends(both), [support.slow_end(second, end) for end in ends(first)])
        chance = random.Random(34)
        for bits in (1, 3, 4, 6) * 20:
            first, second = support.some_mapping(bits, chance), support.some_mapping(bits, chance)
            both = then(first, second)
            self.check_mapping(both, bits)
            self.assertEqual(ends(both), [support.slow_end(second, end) for end in ends(first)])

    def test_many_bits(self):
        chance = random.Random(35)
        for first, second in itertools.pairwise(wide_mappings()):
            both = then(first, second)
            self.check_mapping(both, 60)
            for place in support.some_places(60, chance, 10):
                self.assertEqual(support.slow_end(both, place), support.slow_end(second, support.slow_end(first, place)))

    def test_unlike_bits(self):
        for one, other in ((SWAP, GRAY), (GRAY, SWAP), (([1], 0), SWAP), (SWAP, ([1], 1)), (([1], 0), GRAY)):
            self.assertRaises(UnlikeBits, then, one, other)
        self.assertRaises(UnlikeBits, then, ([2 ** bit for bit in range(60)], 0), ([2 ** bit for bit in range(59)], 0))

    def test_unlike_bits_come_last(self):
        for wrong, index in ((None, None), (([0], 0), 0), (([2], 0), 0), (([1], 2), 1), (([1, 2, 3], 0), 2), (([], 0), None)):
            self.assertEqual(support.outcome(then, SWAP, wrong), (InvalidMapping, index))
            self.assertEqual(support.outcome(then, wrong, SWAP), (InvalidMapping, index))


class InverseTest(CaseWithMappings):

    def test_by_place(self):
        for mapping in few_mappings() + list(support.all_mappings(3)):
            back = inverse(mapping)
            self.check_mapping(back, len(mapping[0]))
            self.assertEqual([support.slow_end(back, end) for end in ends(mapping)], list(range(2 ** len(mapping[0]))))

    def test_many_bits(self):
        chance = random.Random(36)
        for mapping in wide_mappings():
            back = inverse(mapping)
            self.check_mapping(back, 60)
            for place in support.some_places(60, chance, 10):
                self.assertEqual(support.slow_end(back, support.slow_end(mapping, place)), place)


class PowerTest(CaseWithMappings):

    def test_few_times(self):
        for mapping in few_mappings(10):
            there = ends(mapping)
            places = list(range(len(there)))
            back = [there.index(place) for place in places]
            now, before = places, places
            for times in range(12):
                self.assertEqual(ends(power(mapping, times)), now)
                self.assertEqual(ends(power(mapping, -times)), before)
                now, before = [there[place] for place in now], [back[place] for place in before]

    def test_great_times(self):
        for mapping in few_mappings(10) + [SWAP, GRAY, KNOT]:
            bits = len(mapping[0])
            for times in (10 ** 30, -10 ** 30, 10 ** 30 - 1, 1 - 10 ** 30, 2 ** 99 - 1, -(2 ** 98) - 5, 10 ** 9 + 7):
                found = power(mapping, times)
                self.check_mapping(found, bits)
                self.assertEqual(ends(found), self.ends_by_rings(mapping, times))

    def ends_by_rings(self, mapping, times):
        there = ends(mapping)
        found = []
        for place in range(len(there)):
            ring = [place]
            while there[ring[-1]] != place:
                ring.append(there[ring[-1]])
            found.append(ring[times % len(ring)])
        return found

    def test_many_bits(self):
        for mapping in wide_mappings():
            self.assertEqual(power(mapping, 0), ([2 ** bit for bit in range(60)], 0))
            self.assertEqual(power(mapping, 1), mapping)
            self.assertEqual(power(mapping, 3), then(then(mapping, mapping), mapping))
            far, back = power(mapping, 10 ** 30), power(mapping, -10 ** 30)
            self.check_mapping(far, 60)
            self.check_mapping(back, 60)
            self.assertEqual(then(far, back), ([2 ** bit for bit in range(60)], 0))
            self.assertEqual(then(power(mapping, 10 ** 30 - 77), power(mapping, 77)), far)
            self.assertEqual(power(power(mapping, 10 ** 15), 10 ** 15), far)

    def test_known_powers(self):
        for times in (10 ** 30, -10 ** 30, 7, -7, 59, 61, 0):
            self.assertEqual(power(([2 ** 59] + [2 ** bit for bit in range(59)], 0), times), rotation(60, times))
        prefix = ([3 << bit for bit in range(59)] + [2 ** 59], 0)
        self.assertEqual(power(prefix, 10 ** 30), power(prefix, 10 ** 30 % 64))
        self.assertEqual(power(prefix, 64), ([2 ** bit for bit in range(60)], 0))
        self.assertNotEqual(power(prefix, 32), ([2 ** bit for bit in range(60)], 0))

    def test_beyond(self):
        for mapping in (([1], 0), SWAP, ([2 ** bit for bit in range(60)], 0)):
            for times in (10 ** 30 + 1, -10 ** 30 - 1, 10 ** 79, -10 ** 79, support.HUGE, -support.HUGE):
                self.assertRaises(InvalidNumber, power, mapping, times)


if __name__ == "__main__":
    unittest.main()
