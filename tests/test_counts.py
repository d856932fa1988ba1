"""Promise [26]: how many mappings there are, and how many go in one order or in every order."""

import functools
import math
import unittest

from bitstages import errors
from bitstages.counts import always_count, mapping_count, share_of
from bitstages.oneruns import run_count
from tests import support


class ExamplesTest(unittest.TestCase):

    def test_examples(self):
        self.assertEqual([mapping_count(bits) for bits in (1, 2, 3)], [2, 24, 1344])
        self.assertEqual([always_count(bits) for bits in (1, 2, 3, 4, 5)], [2, 12, 200, 8688, 936992])
        self.assertEqual([share_of(2), share_of(3)], [(2, 3), (8, 21)])


class FewBitsTest(unittest.TestCase):

    def test_against_all_mappings(self):
        for bits in (1, 2, 3):
            mappings = list(support.all_mappings(bits))
            self.assertEqual(mapping_count(bits), len(mappings))
            # An offset changes nothing of it.
            linear = [mapping for mapping in mappings if mapping[1] == 0]
            going = [[support.slow_goes(mapping, order) for order in support.orders_of(bits)] for mapping in linear]
            self.assertEqual(always_count(bits), sum(map(all, going)) * 2 ** bits)
            for each in zip(*going):
                share = share_of(bits)
                self.assertIs(type(share), tuple)
                self.assertEqual(share[0] * len(linear), share[1] * sum(each))

    def test_always_of_four(self):
        """The rows with their own bits that make no ring, by taking off bits that no other row has."""
        found = 0
        for told in range(2 ** 12):
            pairs = [(one, other) for one in range(4) for other in range(4) if one != other]
            left = {pair for at, pair in enumerate(pairs) if told >> at & 1}
            bits = set(range(4))
            for _ in range(4):
                bits &= {one for one, other in left if other in bits}
                left = {(one, other) for one, other in left if one in bits and other in bits}
            found += not bits
        self.assertEqual(always_count(4), found * 16)


class ManyBitsTest(unittest.TestCase):

    def test_mappings(self):
        for bits in range(1, 51):
            wanted = 2 ** bits
            for many in range(bits):
                wanted *= 2 ** bits - 2 ** many
            self.assertEqual(mapping_count(bits), wanted)

    def test_shares(self):
        for bits in range(1, 51):
            going, every = share_of(bits)
            self.assertEqual(math.gcd(going, every), 1)
            self.assertEqual(going * mapping_count(bits), every * run_count(bits))
        self.assertEqual(share_of(1), (1, 1))

    def test_always(self):
        """By ranks: a bit of the first rank has no other one, a later one has at least one of the rank ahead of it."""
        @functools.cache
        def ways(left, done, rank):
            """How so many bits can follow so many that are done, of which the last ones are a rank."""
            if left == 0:
                return 1
            return sum(math.comb(left, size) * ((2 ** rank - 1) * 2 ** (done - rank)) ** size *
                       ways(left - size, done + size, size) for size in range(1, left + 1))

        for bits in (1, 2, 3, 4, 5, 6, 10, 25, 50):
            total = sum(math.comb(bits, size) * ways(bits - size, size, size) for size in range(1, bits + 1))
            self.assertEqual(always_count(bits), total * 2 ** bits)

    def test_numbers_of_ringless_graphs(self):
        wanted = [1, 3, 25, 543, 29281, 3781503, 1138779265, 783702329343, 1213442454842881, 4175098976430598143]
        for bits, many in enumerate(wanted, start=1):
            self.assertEqual(always_count(bits), many * 2 ** bits)

    def test_fifty(self):
        self.assertEqual([type(call(50)) for call in (mapping_count, always_count)], [int, int])
        self.assertTrue(2 ** (50 * 49 // 2 + 50) < always_count(50) < run_count(50) < mapping_count(50) < 2 ** 2550)
        self.assertEqual([type(item) for item in share_of(50)], [int, int])


class ErrorsTest(unittest.TestCase):

    def test_too_large(self):
        for call in (mapping_count, always_count, share_of):
            for bits in range(51, 61):
                self.assertEqual(support.limit_of(call, bits), 50)

    def test_no_bits(self):
        for call in (mapping_count, always_count, share_of):
            for bits in (0, 61, -1, True, False, None, "3", [3], support.HUGE, -support.HUGE):
                self.assertEqual(support.outcome(call, bits), (errors.InvalidBits, "none"))


if __name__ == "__main__":
    unittest.main()
