"""Promise [13]: sums, witnesses and dependencies."""

import random
import unittest

from bitstages.masks import dependency, rank, shows_dependency, shows_sum, shows_witness, sum_of, witness
from tests import support


class ExamplesTest(unittest.TestCase):

    def test_examples(self):
        self.assertEqual(rank(3, [3, 5, 6]), 2)
        self.assertEqual(sum_of(3, [3, 5], 6), [0, 1])
        self.assertIsNone(sum_of(3, [3, 5], 7))
        self.assertEqual(sum_of(3, [3, 3], 0), [])
        self.assertIsNone(dependency(3, [3, 5]))
        self.assertIs(shows_witness(3, [3, 5], 7, 7), True)
        self.assertIs(shows_witness(3, [3, 5], 7, 1), False)
        self.assertIs(shows_sum(3, [3, 5, 6], 6, [2]), True)
        self.assertIs(shows_dependency(3, [3, 5, 6], [0, 1, 2]), True)

    def test_one_bit(self):
        self.assertEqual([rank(1, []), rank(1, [0]), rank(1, [1]), rank(1, [1, 1, 0])], [0, 0, 1, 1])
        self.assertEqual([sum_of(1, [1], 1), sum_of(1, [0], 1), sum_of(1, [], 0)], [[0], None, []])
        self.assertEqual([witness(1, [0], 1), witness(1, [], 1), witness(1, [1], 1)], [1, 1, None])

    def test_no_masks(self):
        self.assertEqual(rank(3, []), 0)
        self.assertIsNone(dependency(3, []))
        self.assertEqual(sum_of(3, [], 0), [])
        self.assertIsNone(witness(3, [], 0))
        for mask in range(1, 8):
            self.assertIsNone(sum_of(3, [], mask))
            self.assertTrue(support.odd(witness(3, [], mask), mask))
        self.assertIs(shows_sum(3, [], 0, []), True)
        self.assertIs(shows_sum(3, [], 1, []), False)
        self.assertIs(shows_dependency(3, [], []), False)

    def test_only_answers(self):
        self.assertEqual(dependency(3, [0]), [0])
        self.assertEqual(dependency(3, [1, 0]), [1])
        self.assertEqual(dependency(3, [1, 2, 1]), [0, 2])
        self.assertEqual(dependency(3, [7, 1, 2, 4]), [0, 1, 2, 3])
        self.assertEqual(sum_of(3, [4, 1, 2], 6), [0, 2])
        self.assertEqual(sum_of(3, [4, 5, 7], 7), [2])
        self.assertEqual(sum_of(3, [4, 5, 7], 2), [1, 2])
        self.assertEqual(sum_of(3, [4, 5, 7], 6), [0, 1, 2])


class FewBitsTest(unittest.TestCase):

    def test_against_all_sums(self):
        for bits, masks in support.mask_lists(4):
            sums = {}
            for chosen in support.subsets(len(masks)):
                sums.setdefault(support.picked(masks, chosen), []).append(chosen)
            with self.subTest(bits=bits, masks=masks):
                self.assertEqual(2 ** rank(bits, masks), len(sums))
                self.check_dependency(bits, masks, sums[0][1:])
                for mask in range(2 ** bits):
                    self.check_sum(bits, masks, mask, sums.get(mask))

    def check_dependency(self, bits, masks, lists):
        found = dependency(bits, masks)
        if not lists:
            self.assertIsNone(found)
        else:
            self.assertIn(found, lists)
            self.assertEqual([type(at) for at in found], [int] * len(found))
            self.assertIs(shows_dependency(bits, masks, found), True)

    def check_sum(self, bits, masks, mask, lists):
        found = sum_of(bits, masks, mask)
        place = witness(bits, masks, mask)
        if lists is None:
            self.assertIsNone(found)
            self.assertIs(type(place), int)
            self.assertTrue(0 <= place < 2 ** bits)
            self.assertTrue(support.odd(place, mask))
            self.assertFalse(any(support.odd(place, each) for each in masks))
            self.assertIs(shows_witness(bits, masks, mask, place), True)
        else:
            self.assertIsNone(place)
            self.assertIn(found, lists)
            self.assertIs(shows_sum(bits, masks, mask, found), True)
            if mask == 0:
                self.assertEqual(found, [])

    def test_shows_over_lists(self):
        for bits, masks in [(2, [1, 2, 3]), (2, [0, 1, 1]), (2, [3, 3, 0]), (3, [3, 5, 6]), (3, [1, 2, 4]), (1, [1, 0])]:
            for value in support.near_lists(len(masks)):
                fits = support.is_index_list(value, len(masks))
                total = support.picked(masks, value) if fits else None
                self.assertIs(shows_dependency(bits, masks, value), total == 0 and value != [])
                for mask in range(2 ** bits):
                    self.assertIs(shows_sum(bits, masks, mask, value), total == mask)

    def test_shows_witness_over_integers(self):
        for bits, masks in [(1, []), (1, [1]), (2, [3]), (3, [3, 5]), (3, [0]), (3, []), (3, [1, 2])]:
            for mask in range(2 ** bits):
                for value in range(-20, 70):
                    fits = 0 <= value < 2 ** bits and support.odd(value, mask)
                    fits = fits and not any(support.odd(value, each) for each in masks)
                    self.assertIs(shows_witness(bits, masks, mask, value), fits)

    def test_sums_of_0(self):
        self.assertIs(shows_sum(2, [1, 2, 3, 0], 0, []), True)
        self.assertIs(shows_sum(2, [1, 2, 3, 0], 0, [3]), True)
        self.assertIs(shows_sum(2, [1, 2, 3, 0], 0, [0, 1, 2]), True)
        self.assertIs(shows_sum(2, [1, 2, 3, 0], 0, [0, 1, 2, 3]), True)
        self.assertIs(shows_sum(2, [1, 2, 3, 0], 0, [0, 1]), False)
        self.assertIs(shows_dependency(2, [1, 2, 3, 0], [3]), True)
        self.assertIs(shows_dependency(2, [1, 2, 3, 0], []), False)


class AnyValueTest(unittest.TestCase):

    def test_shows_sum(self):
        masks = [1, 2, 3]
        for mask in range(4):
            for value in support.odd_values():
                fits = support.is_index_list(value, 3) and support.picked(masks, value) == mask
                self.assertIs(shows_sum(2, masks, mask, value), fits, value)

    def test_shows_dependency(self):
        for masks in ([1, 1, 0], [0, 0], [0], []):
            for value in support.odd_values():
                fits = support.is_index_list(value, len(masks)) and value != []
                fits = fits and support.picked(masks, value) == 0
                self.assertIs(shows_dependency(2, masks, value), fits, value)

    def test_shows_witness(self):
        for value in support.odd_values():
            self.assertIs(shows_witness(2, [], 1, value), type(value) is int and value == 1, value)
            self.assertIs(shows_witness(2, [], 2, value), type(value) is int and value == 2, value)

    def test_bools_are_no_indices(self):
        for value in ([True], [False, True], [0, True], [False], [False, 1]):
            for masks in ([1, 1], [0, 0], [1, 0], [0, 1]):
                self.assertIs(shows_dependency(1, masks, value), False)
                self.assertIs(shows_sum(1, masks, 0, value), False)
                self.assertIs(shows_sum(1, masks, 1, value), False)
        self.assertIs(shows_witness(1, [], 1, True), False)
        self.assertIs(shows_witness(1, [], 1, 1), True)

    def test_tuples_are_no_lists(self):
        self.assertIs(shows_dependency(2, [1, 1], (0, 1)), False)
        self.assertIs(shows_sum(2, [1, 1], 0, (0, 1)), False)
        self.assertIs(shows_sum(2, [1, 1], 0, ()), False)


class ManyMasksTest(unittest.TestCase):

    def test_ranks(self):
        found = [rank(bits, masks) for bits, masks in support.wide_lists()]
        slow = [support.slow_rank(masks) for _, masks in support.wide_lists()]
        self.assertEqual(found, slow)
        self.assertEqual(found[:5], [0, 60, 60, 1, 0])

    def test_sums_and_witnesses(self):
        chance = random.Random(13)
        for bits, masks in support.wide_lists():
            chosen = sorted(chance.sample(range(len(masks)), len(masks) // 2))
            reachable = support.picked(masks, chosen)
            self.assertIs(shows_sum(bits, masks, reachable, chosen), True)
            self.assertIs(shows_sum(bits, masks, reachable ^ 1, chosen), False)
            for mask in [0, 1, 2 ** 60 - 1, 2 ** 59, reachable] + support.some_places(60, chance, 5):
                indices = sum_of(bits, masks, mask)
                place = witness(bits, masks, mask)
                fits = support.slow_rank(masks) == support.slow_rank(masks + [mask])
                self.assertIs(indices is None, not fits)
                self.assertIs(place is None, fits)
                if fits:
                    self.assertTrue(support.is_index_list(indices, len(masks)))
                    self.assertEqual(support.picked(masks, indices), mask)
                    self.assertIs(shows_sum(bits, masks, mask, indices), True)
                else:
                    self.assertTrue(0 <= place < 2 ** 60)
                    self.assertEqual([support.odd(place, each) for each in masks + [mask]], [False] * len(masks) + [True])
                    self.assertIs(shows_witness(bits, masks, mask, place), True)
                    self.assertIs(shows_witness(bits, masks[:99] + [mask], mask, place), False)
                    self.assertIs(shows_witness(bits, masks, mask, place + 2 ** 60), False)

    def test_dependencies(self):
        for bits, masks in support.wide_lists():
            found = dependency(bits, masks)
            self.assertIs(found is None, support.slow_rank(masks) == len(masks))
            if found is not None:
                self.assertNotEqual(found, [])
                self.assertTrue(support.is_index_list(found, len(masks)))
                self.assertEqual(support.picked(masks, found), 0)
                self.assertIs(shows_dependency(bits, masks, found), True)
        self.assertIs(shows_dependency(60, [5] * 100, list(range(100))), True)
        self.assertIs(shows_dependency(60, [5] * 100, list(range(99))), False)
        self.assertIs(shows_dependency(60, [5] * 100, [0, 99]), True)
        self.assertIs(shows_dependency(60, [5] * 100, [0, 100]), False)

    def test_the_last_of_many(self):
        masks = [2] * 99 + [1]
        self.assertEqual(sum_of(60, masks, 1), [99])
        self.assertEqual(rank(60, masks), 2)
        ring = [3 << bit for bit in range(59)] + [2 ** 59 + 1]
        self.assertEqual(dependency(60, ring), list(range(60)))
        self.assertEqual(witness(60, ring, 1), 2 ** 60 - 1)


if __name__ == "__main__":
    unittest.main()
