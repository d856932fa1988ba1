"""Promise [16]: bit moves, other names for bits, changed bits and kept places."""

import itertools
import random
import unittest

from bitstages.errors import InvalidNumber
from bitstages.mappings import bit_move, changed_bits, is_bit_move, kept_count, nth_kept, prefix, renamed
from bitstages.mappings import reversal, rotation
from tests import support

SWAP = ([2, 1], 0)
GRAY = ([3, 6, 4], 0)
BITS = (1, 2, 3, 4, 59, 60)


def places_of(bits, chance):
    if bits < 6:
        return list(range(2 ** bits))
    return support.some_places(bits, chance, 8) + [2 ** bit for bit in range(bits)]


def moved(order, offset, place):
    """The end of a place by a bit move."""
    return sum((place >> bit & 1) << k for k, bit in enumerate(order)) ^ offset


def with_other_names(order, place):
    """The place that has bit order[k] if a place has bit k."""
    return sum((place >> k & 1) << bit for k, bit in enumerate(order))


class ExamplesTest(unittest.TestCase):

    def test_examples(self):
        self.assertEqual(bit_move([1, 0], 3), ([2, 1], 3))
        self.assertIs(is_bit_move(GRAY), False)
        self.assertEqual(reversal(3), ([4, 2, 1], 0))
        self.assertEqual(rotation(3, 1), ([4, 1, 2], 0))
        self.assertEqual(prefix(3), GRAY)
        self.assertEqual(renamed(GRAY, [2, 1, 0]), ([1, 3, 6], 0))
        self.assertEqual([changed_bits(GRAY), changed_bits(([1, 2], 2))], [[0, 1], [1]])
        self.assertEqual([kept_count(SWAP), nth_kept(SWAP, 1), kept_count(([1], 1))], [2, 3, 0])

    def test_one_bit(self):
        self.assertEqual([bit_move([0], 0), bit_move([0], 1)], [([1], 0), ([1], 1)])
        self.assertEqual([reversal(1), rotation(1, 5), rotation(1, -1), prefix(1)], [([1], 0)] * 4)
        self.assertEqual([renamed(([1], 1), [0]), renamed(([1], 0), [0])], [([1], 1), ([1], 0)])
        self.assertEqual([changed_bits(([1], 0)), changed_bits(([1], 1))], [[], [0]])
        self.assertEqual([kept_count(([1], 0)), nth_kept(([1], 0), 0), nth_kept(([1], 0), 1)], [2, 0, 1])


class BitMoveTest(unittest.TestCase):

    def test_ends(self):
        chance = random.Random(41)
        for bits in BITS:
            for _ in range(12):
                order = chance.sample(range(bits), bits)
                for offset in (0, 2 ** bits - 1, chance.randrange(2 ** bits)):
                    mapping = bit_move(order, offset)
                    self.assertEqual([len(mapping[0]), mapping[1]], [bits, offset])
                    for place in places_of(bits, chance):
                        self.assertEqual(support.slow_end(mapping, place), moved(order, offset, place))
                    self.assertIs(is_bit_move(mapping), True)

    def test_is_bit_move(self):
        for bits in (1, 2, 3):
            moves = []
            for order in itertools.permutations(range(bits)):
                moves += [([2 ** bit for bit in order], offset) for offset in range(2 ** bits)]
            for mapping in support.all_mappings(bits):
                self.assertIs(is_bit_move(mapping), mapping in moves)

    def test_is_bit_move_of_many_bits(self):
        units = [2 ** bit for bit in range(60)]
        for offset in (0, 5, 2 ** 60 - 1):
            self.assertIs(is_bit_move((units, offset)), True)
            self.assertIs(is_bit_move((units[::-1], offset)), True)
            self.assertIs(is_bit_move((units[:59] + [2 ** 59 + 1], offset)), False)
            self.assertIs(is_bit_move(([2 ** 59 + 1] + units[1:], offset)), False)


class MadeMappingsTest(unittest.TestCase):

    def test_reversal(self):
        for bits in BITS:
            self.assertEqual(reversal(bits), ([2 ** (bits - 1 - bit) for bit in range(bits)], 0))

    def test_rotation(self):
        chance = random.Random(42)
        numbers = list(range(-9, 10)) + [59, 60, 61, -59, -60, -61, 10 ** 79, -10 ** 79, 10 ** 80 - 1, 1 - 10 ** 80]
        for bits in BITS:
            for number in numbers:
                mapping = rotation(bits, number)
                self.assertEqual(mapping, ([2 ** ((bit - number) % bits) for bit in range(bits)], 0))
        for place in places_of(60, chance):
            turned = (place << 7 | place >> 53) % 2 ** 60
            self.assertEqual(support.slow_end(rotation(60, 7), place), turned)
            self.assertEqual(support.slow_end(rotation(60, 7 + 60 * 10 ** 77), place), turned)
            self.assertEqual(support.slow_end(rotation(60, 7 - 60 * 10 ** 77), place), turned)

    def test_prefix(self):
        chance = random.Random(43)
        for bits in BITS:
            mapping = prefix(bits)
            self.assertEqual(len(mapping[0]), bits)
            for place in places_of(bits, chance):
                self.assertEqual(support.slow_end(mapping, place), place ^ place >> 1)


class RenamedTest(unittest.TestCase):

    def check(self, mapping, order, places):
        found = renamed(mapping, order)
        self.assertTrue(support.slow_is_mapping(found))
        self.assertEqual(len(found[0]), len(order))
        for place in places:
            end = support.slow_end(found, with_other_names(order, place))
            self.assertEqual(end, with_other_names(order, support.slow_end(mapping, place)))

    def test_all_of_two_bits(self):
        for mapping in support.all_mappings(2):
            for order in ([0, 1], [1, 0]):
                self.check(mapping, order, range(4))

    def test_more_bits(self):
        chance = random.Random(44)
        for bits in (3, 3, 4, 5) * 10:
            mapping = support.some_mapping(bits, chance)
            for order in (chance.sample(range(bits), bits), list(range(bits)), list(range(1, bits)) + [0]):
                self.check(mapping, order, range(2 ** bits))

    def test_many_bits(self):
        chance = random.Random(45)
        for _ in range(3):
            mapping = support.some_mapping(60, chance)
            order = chance.sample(range(60), 60)
            self.check(mapping, order, support.some_places(60, chance, 20))
            self.assertEqual(renamed(mapping, list(range(60))), mapping)


class ChangedBitsTest(unittest.TestCase):

    def check(self, mapping):
        rows, offset = mapping
        slow = [bit for bit in range(len(rows)) if not (rows[bit] == 2 ** bit and offset >> bit & 1 == 0)]
        self.assertEqual(changed_bits(mapping), slow)
        self.assertEqual({type(bit) for bit in changed_bits(mapping)} - {int}, set())

    def test_changed_bits(self):
        for mapping in itertools.chain(*[support.all_mappings(bits) for bits in (1, 2, 3)]):
            self.check(mapping)

    def test_many_bits(self):
        chance = random.Random(46)
        units = [2 ** bit for bit in range(60)]
        self.assertEqual(changed_bits((units, 0)), [])
        self.assertEqual(changed_bits((units, 2 ** 60 - 1)), list(range(60)))
        self.assertEqual(changed_bits((units, 2 ** 59 + 1)), [0, 59])
        self.assertEqual(changed_bits((units[:59] + [2 ** 59 + 1], 4)), [2, 59])
        for _ in range(5):
            self.check(support.some_mapping(60, chance))


class KeptTest(unittest.TestCase):

    def test_few_bits(self):
        chance = random.Random(47)
        more = [support.some_mapping(bits, chance) for bits in (4, 5, 6) for _ in range(15)]
        near = []
        for bits in (4, 5):
            for _ in range(25):
                rows = [2 ** bit for bit in range(bits)]
                rows[chance.randrange(2)] ^= 2 ** chance.randrange(2, bits)
                near.append((rows, chance.choice((0, 1, 2, 3))))
        for mapping in itertools.chain(*[support.all_mappings(bits) for bits in (1, 2, 3)], more, near):
            kept = [place for place in range(2 ** len(mapping[0])) if support.slow_end(mapping, place) == place]
            count = kept_count(mapping)
            self.assertEqual(count, len(kept))
            self.assertEqual([nth_kept(mapping, index) for index in range(count)], kept)
            self.assertRaises(InvalidNumber, nth_kept, mapping, count)

    def test_many_bits(self):
        units = [2 ** bit for bit in range(60)]
        self.assertEqual(kept_count((units, 0)), 2 ** 60)
        for index in (0, 1, 2 ** 59 + 12345, 2 ** 60 - 1):
            self.assertEqual(nth_kept((units, 0), index), index)
        self.assertEqual(kept_count((units, 2 ** 59)), 0)
        self.assertEqual(kept_count((units[::-1], 0)), 2 ** 30)
        for index in (0, 1, 2, 3, 12345, 2 ** 29, 2 ** 30 - 1):
            low = int(f"{index:030b}"[::-1], 2)
            self.assertEqual(nth_kept((units[::-1], 0), index), index << 30 | low)
        self.assertEqual([kept_count(rotation(60, 1)), nth_kept(rotation(60, 1), 1)], [2, 2 ** 60 - 1])

    def test_numbering_of_many_bits(self):
        chance = random.Random(48)
        for _ in range(4):
            rows = [2 ** bit for bit in range(60)]
            for _ in range(20):
                rows[chance.randrange(30)] ^= 2 ** chance.randrange(30, 60)
            masks = [row ^ 2 ** bit for bit, row in enumerate(rows)]
            for offset in (0, chance.randrange(2 ** 60), masks[3]):
                values = [offset >> bit & 1 for bit in range(60)]
                count = support.slow_count(60, masks, values)
                self.assertEqual(kept_count((rows, offset)), count)
                for index in sorted({0, count // 3, count - 1} if count else []):
                    place = nth_kept((rows, offset), index)
                    self.assertEqual(support.slow_end((rows, offset), place), place)
                    self.assertEqual(support.slow_index(60, masks, values, place), index)

    def test_too_great_an_index(self):
        units = [2 ** bit for bit in range(60)]
        for mapping, count in ((([1], 1), 0), (([1], 0), 2), (SWAP, 2), ((units, 0), 2 ** 60), ((units, 1), 0)):
            for index in (count, count + 1, 2 ** 60, 10 ** 79, support.HUGE):
                self.assertRaises(InvalidNumber, nth_kept, mapping, index)


if __name__ == "__main__":
    unittest.main()
