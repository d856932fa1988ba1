"""Promise [22]: the orders in which a mapping goes, and closed lists."""

import functools
import itertools
import math
import random
import unittest

from bitstages import errors
from bitstages.mappings import prefix, reversal, rotation
from bitstages.oneruns import goes
from bitstages.orders import nth_order, order_count, shows_stuck, stuck_sets
from tests import support

SWAP = ([2, 1], 0)
GRAY = ([3, 6, 4], 0)
KNOT = ([7, 3, 5], 0)


def few_mappings():
    chance = random.Random(101)
    for bits in (1, 2, 3):
        for mapping in support.all_mappings(bits):
            if mapping[1] in (0, 1):
                yield mapping
    for turn in range(25):
        if turn % 2:
            yield support.some_mapping(4, chance)
        else:
            yield support.slow_mapping(4, support.some_run(4, 4, chance))


def slow_stuck(mapping, value):
    """Whether any value is a closed list, as it is defined."""
    bits = len(mapping[0])
    whole = 2 ** bits - 1
    if type(value) is not list or len(value) > 1024:
        return False
    if not all(type(mask) is int and 0 <= mask <= whole for mask in value) or 0 not in value or whole in value:
        return False
    for mask in value:
        for bit in range(bits):
            larger = mask | 2 ** bit
            if larger != mask and larger not in value and support.slow_fits(mapping, larger):
                return False
    return True


def slow_ways(mapping):
    """A function that counts the orders of the further bits behind the bits of a mask."""
    bits = len(mapping[0])

    @functools.cache
    def ways(mask):
        if not support.slow_fits(mapping, mask):
            return 0
        if mask == 2 ** bits - 1:
            return 1
        return sum(ways(mask | 2 ** bit) for bit in range(bits) if not mask >> bit & 1)

    return ways


class ExamplesTest(unittest.TestCase):

    def test_examples(self):
        self.assertEqual([order_count(KNOT), [nth_order(KNOT, index) for index in (0, 1)]], [2, [[1, 2, 0], [2, 1, 0]]])
        self.assertEqual([order_count(GRAY), order_count(SWAP), stuck_sets(KNOT)], [6, 0, None])
        self.assertEqual([shows_stuck(SWAP, [0]), shows_stuck(SWAP, [0, 1]), shows_stuck(SWAP, [0, 3])], [True, False, False])
        self.assertIs(shows_stuck(KNOT, [0, 1]), False)


class CaseOfCounts(unittest.TestCase):

    def check_too_great(self, mapping, index):
        self.assertEqual(support.outcome(nth_order, mapping, index), (errors.InvalidNumber, "none"))

    def check_stuck(self, mapping):
        found = stuck_sets(mapping)
        if found is not None:
            self.assertTrue(slow_stuck(mapping, found))
            self.assertIs(shows_stuck(mapping, found), True)
            self.assertEqual({type(mask) for mask in found}, {int})
        return found


class FewBitsTest(CaseOfCounts):

    def test_against_all_orders(self):
        stuck = set()
        for mapping in few_mappings():
            orders = [order for order in support.orders_of(len(mapping[0])) if support.slow_goes(mapping, order)]
            self.assertEqual(orders, sorted(orders))
            self.assertEqual(order_count(mapping), len(orders))
            self.assertEqual([nth_order(mapping, index) for index in range(len(orders))], orders)
            for index in (len(orders), len(orders) + 1, 10 ** 79, support.HUGE):
                self.check_too_great(mapping, index)
            self.assertIs(self.check_stuck(mapping) is None, orders != [])
            stuck.add((len(mapping[0]), orders == []))
        self.assertEqual(stuck, set(itertools.product((1, 2, 3, 4), (True, False))) - {(1, True)})

    def test_kinds(self):
        self.assertEqual([type(item) for item in [order_count(KNOT)] + nth_order(KNOT, 0)], [int] * 4)


class TenBitsTest(CaseOfCounts):

    def test_every_order(self):
        many = math.factorial(10)
        for mapping in (prefix(10), ([2 ** bit for bit in range(10)], 1023), support.some_triangle(10, random.Random(102))[0]):
            self.assertEqual(order_count(mapping), many)
            self.assertEqual(nth_order(mapping, 0), list(range(10)))
            self.assertEqual(nth_order(mapping, 1), [*range(8), 9, 8])
            self.assertEqual(nth_order(mapping, many // 2), [5, 0, 1, 2, 3, 4, 6, 7, 8, 9])
            self.assertEqual(nth_order(mapping, many - 1), list(range(10))[::-1])
            for index in (many, many + 1, support.HUGE):
                self.check_too_great(mapping, index)
            self.assertIs(stuck_sets(mapping), None)

    def test_no_order(self):
        whole_but_last = list(range(1023))
        for mapping in (reversal(10), rotation(10, 3), ([2, 1] + [2 ** bit for bit in range(2, 10)], 0)):
            self.assertEqual(order_count(mapping), 0)
            for index in (0, 1, support.HUGE):
                self.check_too_great(mapping, index)
            self.assertIsNot(self.check_stuck(mapping), None)
            self.assertIs(shows_stuck(mapping, whole_but_last), slow_stuck(mapping, whole_but_last))

    def test_long_stuck_sets(self):
        """Two bits are exchanged, the others are kept: their 256 sets are reached."""
        mapping = [2, 1] + [2 ** bit for bit in range(2, 10)], 0
        reached = [mask * 4 for mask in range(256)]
        self.assertEqual(sorted(set(stuck_sets(mapping))), reached)
        self.assertIs(shows_stuck(mapping, reached[::-1]), True)
        for mask in reached[1:]:
            self.assertIs(shows_stuck(mapping, [other for other in reached if other != mask]), False)

    def test_by_sets(self):
        chance = random.Random(103)
        counted = 0
        for turn in range(14):
            bits = chance.choice((5, 8, 9, 10))
            mapping = support.slow_mapping(bits, support.some_run(bits, bits if turn % 2 else bits // 2, chance))
            if turn % 4 == 0:
                mapping = support.some_mapping(bits, chance)
            ways = slow_ways(mapping)
            many = order_count(mapping)
            self.assertEqual(many, ways(0))
            self.assertIs(self.check_stuck(mapping) is None, many > 0)
            self.check_too_great(mapping, many)
            indices = sorted({chance.randrange(many) for _ in range(8)} | {0, many - 1}) if many else []
            orders = [nth_order(mapping, index) for index in indices]
            for index, order in zip(indices, orders):
                self.assertIs(goes(mapping, order), True)
                self.assertEqual(self.index_by_ways(ways, order), index)
            self.assertTrue(all(one < other for one, other in itertools.pairwise(orders)))
            counted += many > 0
        self.assertGreater(counted, 3)

    def index_by_ways(self, ways, order):
        index, done = 0, 0
        for bit in order:
            index += sum(ways(done | 2 ** lower) for lower in range(bit) if not done >> lower & 1)
            done |= 2 ** bit
        return index


class ShowsStuckTest(unittest.TestCase):

    def test_any_value(self):
        for mapping in (SWAP, KNOT, GRAY, ([1], 1), reversal(3), reversal(10)):
            for value in support.odd_values():
                self.assertIs(shows_stuck(mapping, value), slow_stuck(mapping, value), value)

    def test_all_lists_of_two_bits(self):
        for mapping in support.all_mappings(2):
            for size in range(4):
                for value in itertools.product(range(-1, 5), repeat=size):
                    self.assertIs(shows_stuck(mapping, list(value)), slow_stuck(mapping, list(value)))

    def test_lists_of_three_bits(self):
        chance = random.Random(104)
        stuck = [mapping for mapping in support.all_mappings(3) if mapping[1] == 0 and order_count(mapping) == 0]
        found = 0
        for mapping in stuck[::2] + [reversal(3), KNOT, GRAY]:
            for chosen in support.subsets(8):
                value = chance.sample(chosen, len(chosen))
                self.assertIs(shows_stuck(mapping, value), slow_stuck(mapping, value))
                found += slow_stuck(mapping, value)
        self.assertGreater(found, len(stuck))

    def test_nothing_is_shown_if_an_order_goes(self):
        for mapping in support.all_mappings(3):
            if mapping[1] == 0 and order_count(mapping) > 0:
                for chosen in support.subsets(7):
                    self.assertIs(shows_stuck(mapping, chosen), False)

    def test_nearly(self):
        mapping = ([2, 1, 4], 0)
        for value in ([0, 4], [4, 0], [0, 4, 4], [0, 0, 4], [4, 0, 4, 0], [0] * 1023 + [4]):
            self.assertIs(shows_stuck(mapping, value), True, value)
        for value in ([0], [4], [], [0, 4, 7], [0, 7], [0, 4, 8], [0, 4, -1], [0, 4, None], [0, 4, "1"], [0, 4, [1]], [0, 4, True],
                      [False, 4], [0, 4, (0,)], (0, 4), "04", {"0": 4}, [[0, 4]], [0] * 1024 + [4], [0, 4] * 513, [0, 4, {}],
                      [0, 4, support.HUGE], [0, 3, 4], [0, 4] * 1200,
                      [0, 1, 2, 4, 5, 6], [0, 4, 5], [0, 1, 4]):
            self.assertIs(shows_stuck(mapping, value), False, value)

    def test_lengths(self):
        self.assertIs(shows_stuck(SWAP, [0] * 1024), True)
        self.assertIs(shows_stuck(SWAP, [0] * 1025), False)
        mapping = reversal(10)
        for spare in (1023, 1024):
            value = [0] * (spare - 3) + stuck_sets(mapping)
            self.assertIs(shows_stuck(mapping, value), slow_stuck(mapping, value))


class TooLargeTest(CaseOfCounts):

    def check_limit(self, function, *args):
        with self.assertRaises(errors.TooLarge) as caught:
            function(*args)
        self.assertEqual(caught.exception.limit, 10)

    def test_eleven_bits(self):
        for bits in (11, 12, 60):
            for mapping in (prefix(bits), reversal(bits)):
                self.check_limit(order_count, mapping)
                self.check_limit(stuck_sets, mapping)
                for value in ([0], [], None, [0] * 2000, {"a": 1}):
                    self.check_limit(shows_stuck, mapping, value)

    def test_ahead_of_an_index_that_is_too_great(self):
        for bits in (11, 60):
            for index in (0, 1, math.factorial(11), 10 ** 79, support.HUGE):
                self.check_limit(nth_order, prefix(bits), index)
                self.check_limit(nth_order, reversal(bits), index)

    def test_behind_the_parameters(self):
        units = [2 ** bit for bit in range(11)]
        for index in (-1, None, True, False, "0", [0], (0,), {}, -support.HUGE):
            self.check_too_great((units, 0), index)
        wrong = (units[:10] + [3], 0)
        for call in (lambda: order_count(wrong), lambda: stuck_sets(wrong), lambda: shows_stuck(wrong, [0]),
                     lambda: nth_order(wrong, None), lambda: nth_order(wrong, 0)):
            self.assertEqual(support.outcome(call), (errors.InvalidMapping, 10))
        self.assertEqual(support.outcome(order_count, (units, 2048)), (errors.InvalidMapping, 11))


if __name__ == "__main__":
    unittest.main()
