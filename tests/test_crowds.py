"""Promise [20]: how many values would be at a place, which ones, and the calmest order."""

import functools
import random
import unittest

from bitstages import errors
from bitstages.crowds import calmest_order, crowd, greatest_crowd, nth_in_crowd, used_count
from bitstages.mappings import prefix, renamed, reversal, rotation
from tests import support

SWAP = ([2, 1], 0)
GRAY = ([3, 6, 4], 0)
KNOT = ([7, 3, 5], 0)


def drawn_mappings(bits, many, chance):
    for turn in range(many):
        if turn % 3 == 0:
            yield support.some_mapping(bits, chance)
        elif turn % 3 == 1:
            yield [2 ** bit for bit in chance.sample(range(bits), bits)], chance.randrange(2 ** bits)
        else:
            yield support.slow_mapping(bits, support.some_run(bits, bits + 2, chance))


def mappings_and_orders():
    chance = random.Random(81)
    for bits in (1, 2):
        for mapping in support.all_mappings(bits):
            for order in support.orders_of(bits):
                yield mapping, order
    for mapping in drawn_mappings(3, 30, chance):
        for order in support.orders_of(3):
            yield mapping, order
    for bits in (4, 5):
        for mapping in drawn_mappings(bits, 15, chance):
            yield mapping, chance.sample(range(bits), bits)


def rows_between(mapping, order, number):
    """The rows and the offset that lead to the places behind a number of stages."""
    rows = [2 ** bit for bit in range(len(order))]
    offset = 0
    for bit in order[:number]:
        rows[bit] = mapping[0][bit]
        offset += mapping[1] & 2 ** bit
    return rows, offset


class ExamplesTest(unittest.TestCase):

    def test_examples(self):
        self.assertEqual([crowd(SWAP, [0, 1], 1, 0), nth_in_crowd(SWAP, [0, 1], 1, 0, 1)], [2, 1])
        self.assertEqual([crowd(SWAP, [0, 1], 1, 1), used_count(SWAP, [0, 1], 1)], [0, 2])
        self.assertEqual(greatest_crowd(reversal(4), [0, 1, 2, 3]), (4, 2))
        self.assertEqual(calmest_order(reversal(4)), (2, [0, 3, 1, 2]))
        self.assertEqual(greatest_crowd(GRAY, [1, 2, 0]), (1, 0))


class FewBitsTest(unittest.TestCase):

    def test_by_listing(self):
        for mapping, order in mappings_and_orders():
            for number in range(len(order) + 1):
                crowds = support.slow_crowds(mapping, order, number)
                self.assertEqual(used_count(mapping, order, number), len(crowds))
                for place in range(2 ** len(order)):
                    values = crowds.get(place, [])
                    many = crowd(mapping, order, number, place)
                    self.assertEqual(many, len(values))
                    self.assertEqual([nth_in_crowd(mapping, order, number, place, index) for index in range(many)], values)
                    for index in (many, many + 1, 2 ** 60, support.HUGE):
                        found = support.outcome(nth_in_crowd, mapping, order, number, place, index)
                        self.assertEqual(found, (errors.InvalidNumber, "none"))

    def test_greatest_crowd(self):
        for mapping, order in mappings_and_orders():
            self.assertEqual(greatest_crowd(mapping, order), support.slow_greatest(mapping, order))

    def test_kinds(self):
        answers = [crowd(KNOT, [0, 1, 2], 2, 0), used_count(KNOT, [0, 1, 2], 2), *greatest_crowd(KNOT, [0, 1, 2]),
                   nth_in_crowd(KNOT, [0, 1, 2], 2, 0, 0), calmest_order(KNOT)[0], *calmest_order(KNOT)[1]]
        self.assertEqual({type(answer) for answer in answers}, {int})
        self.assertEqual([type(greatest_crowd(KNOT, [0, 1, 2])), type(calmest_order(KNOT))], [tuple, tuple])


class NumbersTest(unittest.TestCase):

    def test_number_of_stages(self):
        for bits in (1, 2, 3, 60):
            mapping, order = reversal(bits), list(range(bits))
            for number in (0, bits):
                self.assertEqual(used_count(mapping, order, number), 2 ** bits)
                self.assertEqual(crowd(mapping, order, number, 2 ** bits - 1), 1)
                self.assertEqual(nth_in_crowd(mapping, order, number, 2 ** bits - 1, 0), 2 ** bits - 1)
            for number in (-1, bits + 1, bits + 2, 61 + bits, support.HUGE, -support.HUGE, None, True, False, "0", [0]):
                for call in (lambda: used_count(mapping, order, number), lambda: crowd(mapping, order, number, 0),
                             lambda: nth_in_crowd(mapping, order, number, 0, 0)):
                    self.assertEqual(support.outcome(call), (errors.InvalidNumber, "none"))

    def test_number_ahead_of_place_and_index(self):
        for number in (-1, 3, None):
            self.assertEqual(support.outcome(crowd, SWAP, [0, 1], number, 4), (errors.InvalidNumber, "none"))
            self.assertEqual(support.outcome(nth_in_crowd, SWAP, [0, 1], number, -1, None), (errors.InvalidNumber, "none"))

    def test_empty_crowd(self):
        """There an index 0 is too great, which comes behind all other errors."""
        self.assertEqual(crowd(SWAP, [0, 1], 1, 1), 0)
        wrong = [((SWAP, [0, 1], 1, 1, 0), (errors.InvalidNumber, "none")),
                 ((SWAP, [0, 1], 1, 1, -1), (errors.InvalidNumber, "none")),
                 ((SWAP, [0, 1], 1, 4, 0), (errors.InvalidPlace, "none")),
                 ((SWAP, [0, 1], 1, True, 0), (errors.InvalidPlace, "none")),
                 ((SWAP, [0, 0], 1, 1, 0), (errors.InvalidOrder, "none")),
                 ((([2, 2], 0), [0, 1], 1, 1, 0), (errors.InvalidMapping, 1))]
        for args, error in wrong:
            self.assertEqual(support.outcome(nth_in_crowd, *args), error)
        order = list(range(60))
        self.assertEqual(crowd(reversal(60), order, 30, 1), 0)
        self.assertEqual(support.outcome(nth_in_crowd, reversal(60), order, 30, 1, 0), (errors.InvalidNumber, "none"))


class ManyBitsTest(unittest.TestCase):

    def test_reversal(self):
        order, back = list(range(60)), reversal(60)
        for number in (1, 2, 29, 30, 31, 45, 59):
            lost = min(number, 60 - number)
            self.assertEqual(used_count(back, order, number), 2 ** (60 - lost))
            self.assertEqual(crowd(back, order, number, 0), 2 ** lost)
            self.assertEqual(crowd(back, order, number, 2 ** 60 - 1), 2 ** lost)
            self.assertEqual(crowd(back, order, number, 1), 0)
            # The lowest bits of the values went lost.
            for index in (0, 1, 2 ** lost - 1):
                self.assertEqual(nth_in_crowd(back, order, number, 0, index), index)
        self.assertEqual(greatest_crowd(back, order), (2 ** 30, 30))
        self.assertEqual(greatest_crowd(back, order[::-1]), (2 ** 30, 30))
        calm = [bit for pair in zip(range(30), range(59, 29, -1)) for bit in pair]
        self.assertEqual(greatest_crowd(back, calm), (2, 1))
        self.assertEqual(greatest_crowd(prefix(60), calm), (1, 0))
        self.assertEqual(greatest_crowd(rotation(60, 1), order), (2, 1))

    def test_by_ranks(self):
        chance = random.Random(82)
        for mapping in [support.some_mapping(60, chance), support.slow_mapping(60, support.some_run(60, 9, chance)),
                        rotation(60, 17), ([2 ** bit for bit in chance.sample(range(60), 60)], 2 ** 59 + 3)]:
            order = chance.sample(range(60), 60)
            sizes = []
            for number in range(61):
                rows, offset = rows_between(mapping, order, number)
                sizes.append(2 ** (60 - support.slow_rank(rows)))
                self.assertEqual(used_count(mapping, order, number), 2 ** support.slow_rank(rows))
            self.assertEqual(greatest_crowd(mapping, order), (max(sizes), sizes.index(max(sizes))))
            for number in (0, 13, 30, 47, 60):
                rows, offset = rows_between(mapping, order, number)
                used = support.place_between(mapping, order, number, chance.randrange(2 ** 60))
                for place in (used, 0, chance.randrange(2 ** 60)):
                    values = [(place ^ offset) >> bit & 1 for bit in range(60)]
                    many = support.slow_count(60, rows, values)
                    self.assertEqual(crowd(mapping, order, number, place), many)
                    for index in sorted({0, many // 3, many - 1} if many else []):
                        value = nth_in_crowd(mapping, order, number, place, index)
                        self.assertEqual(support.place_between(mapping, order, number, value), place)
                        self.assertEqual(support.slow_index(60, rows, values, value), index)


class CalmestOrderTest(unittest.TestCase):

    def by_trying(self, mapping):
        return min((support.slow_greatest(mapping, order)[0], order) for order in support.orders_of(len(mapping[0])))

    def by_sets(self, mapping):
        """The same for more bits, by the least worst way on from each set of bits."""
        bits = len(mapping[0])

        @functools.cache
        def on_from(done):
            rows = [row & done for bit, row in enumerate(mapping[0]) if done >> bit & 1]
            here = len(rows) - support.slow_rank(rows)
            ways = [on_from(done | 1 << bit) for bit in range(bits) if not done >> bit & 1]
            return max(here, min(ways)) if ways else here

        order, done = [], 0
        while len(order) < bits:
            fitting = [bit for bit in range(bits) if not done >> bit & 1 and on_from(done | 1 << bit) <= on_from(0)]
            order.append(fitting[0])
            done |= 1 << fitting[0]
        return 2 ** on_from(0), order

    def test_all_of_few_bits(self):
        for bits in (1, 2):
            for mapping in support.all_mappings(bits):
                self.assertEqual(calmest_order(mapping), self.by_trying(mapping))

    def test_trying_all_orders(self):
        chance = random.Random(83)
        for mapping in list(support.all_mappings(3))[::9] + list(drawn_mappings(4, 24, chance)):
            self.assertEqual(calmest_order(mapping), self.by_trying(mapping))

    def test_more_bits(self):
        chance = random.Random(84)
        for bits in (5, 6, 7):
            for mapping in drawn_mappings(bits, 9, chance):
                self.assertEqual(calmest_order(mapping), self.by_sets(mapping))

    def test_ten_bits(self):
        chance = random.Random(85)
        self.assertEqual(calmest_order(reversal(10)), (2, [0, 9, 1, 8, 2, 7, 3, 6, 4, 5]))
        self.assertEqual(calmest_order(prefix(10)), (1, list(range(10))))
        ring = [2 ** ((bit + 1) % 10) for bit in range(10)], 77
        self.assertEqual(calmest_order(ring), (2, list(range(10))))
        for mapping in [renamed(reversal(10), chance.sample(range(10), 10))] + list(drawn_mappings(10, 3, chance)):
            size, order = calmest_order(mapping)
            self.assertEqual((size, order), self.by_sets(mapping))
            self.assertEqual(greatest_crowd(mapping, order)[0], size)
            for _ in range(20):
                self.assertGreaterEqual(greatest_crowd(mapping, chance.sample(range(10), 10))[0], size)

    def test_too_large(self):
        for bits in (11, 12, 60):
            with self.assertRaises(errors.TooLarge) as caught:
                calmest_order(reversal(bits))
            self.assertEqual(caught.exception.limit, 10)
        units = [2 ** bit for bit in range(11)]
        self.assertEqual(support.outcome(calmest_order, (units[:10] + [1], 0)), (errors.InvalidMapping, 10))
        self.assertEqual(support.outcome(calmest_order, (units, 2 ** 11)), (errors.InvalidMapping, 11))


if __name__ == "__main__":
    unittest.main()
