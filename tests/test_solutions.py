"""Promise [14]: solutions and conflicts."""

import itertools
import random
import unittest

from bitstages.errors import InvalidNumber
from bitstages.masks import conflict, nth_solution, shows_conflict, solution_count, solution_index
from tests import support


def systems():
    """Few bits, masks and values."""
    for bits, masks in support.mask_lists(3):
        for values in itertools.product((0, 1), repeat=len(masks)):
            yield bits, masks, list(values)


def wide_systems():
    """60 bits, long lists of masks, and values with and without solutions."""
    chance = random.Random(21)
    for bits, masks in support.wide_lists():
        place = chance.randrange(2 ** 60)
        values = [int(support.odd(place, mask)) for mask in masks]
        yield bits, masks, values
        if masks:
            at = chance.randrange(len(masks))
            yield bits, masks, values[:at] + [1 - values[at]] + values[at + 1:]
            yield bits, masks, [chance.randrange(2) for _ in masks]
            yield bits, masks, [0] * len(masks)


class ExamplesTest(unittest.TestCase):

    def test_examples(self):
        self.assertEqual(solution_count(3, [3, 6], [1, 0]), 2)
        self.assertEqual([nth_solution(3, [3, 6], [1, 0], index) for index in (0, 1)], [1, 6])
        self.assertEqual(solution_index(3, [3, 6], [1, 0], 6), 1)
        self.assertEqual(solution_count(60, [], []), 2 ** 60)
        self.assertIsNone(conflict(3, [3, 6], [1, 0]))
        self.assertIs(shows_conflict(3, [3, 6, 5], [1, 0, 0], [0, 1, 2]), True)

    def test_only_answers(self):
        self.assertEqual(conflict(3, [0], [1]), [0])
        self.assertEqual(conflict(3, [0, 0], [0, 1]), [1])
        self.assertEqual(conflict(3, [3, 6, 5], [1, 0, 0]), [0, 1, 2])
        self.assertEqual(conflict(3, [3, 7, 3], [1, 0, 0]), [0, 2])
        self.assertIsNone(conflict(3, [3, 6, 5], [1, 1, 0]))
        self.assertEqual(conflict(3, [1, 1, 2, 2], [1, 1, 1, 0]), [2, 3])


class FewBitsTest(unittest.TestCase):

    def test_against_all_places(self):
        for bits, masks, values in systems():
            solutions = []
            for place in range(2 ** bits):
                if [int(support.odd(place, mask)) for mask in masks] == values:
                    solutions.append(place)
            with self.subTest(bits=bits, masks=masks, values=values):
                count = solution_count(bits, masks, values)
                self.assertEqual(count, len(solutions))
                self.assertIs(type(count), int)
                found = [nth_solution(bits, masks, values, index) for index in range(count)]
                self.assertEqual(found, solutions)
                indices = [solution_index(bits, masks, values, place) for place in range(2 ** bits)]
                wanted = [solutions.index(place) if place in solutions else None for place in range(2 ** bits)]
                self.assertEqual(indices, wanted)
                self.assertRaises(InvalidNumber, nth_solution, bits, masks, values, count)
                self.check_conflict(bits, masks, values, len(solutions) > 0)

    def check_conflict(self, bits, masks, values, solvable):
        found = conflict(bits, masks, values)
        self.assertIs(found is None, solvable)
        if found is not None:
            self.assertTrue(support.is_index_list(found, len(masks)))
            self.assertEqual(support.picked(masks, found), 0)
            self.assertEqual(sum(values[at] for at in found) % 2, 1)
            self.assertIs(shows_conflict(bits, masks, values, found), True)

    def test_shows_conflict_over_lists(self):
        for bits, masks in [(2, [1, 2, 3]), (2, [0, 1, 1]), (2, [3, 3, 3]), (3, [3, 5, 6]), (1, [0, 0]), (3, [1, 2, 4])]:
            for values in itertools.product((0, 1), repeat=len(masks)):
                for value in support.near_lists(len(masks)):
                    fits = support.is_index_list(value, len(masks)) and support.picked(masks, value) == 0
                    fits = fits and sum(values[at] for at in value) % 2 == 1
                    self.assertIs(shows_conflict(bits, masks, list(values), value), fits)

    def test_shows_conflict_over_any_value(self):
        for masks in ([0, 0, 0], [1, 1, 0], [1, 1], [0, 0]):
            for values in itertools.product((0, 1), repeat=len(masks)):
                for value in support.odd_values():
                    fits = support.is_index_list(value, len(masks)) and support.picked(masks, value) == 0
                    fits = fits and sum(values[at] for at in value) % 2 == 1
                    self.assertIs(shows_conflict(2, masks, list(values), value), fits, value)

    def test_bools_are_no_indices(self):
        for value in ([True], [False], [False, True], [0, True], [False, 1]):
            for values in ([1, 0], [0, 1], [1, 1]):
                self.assertIs(shows_conflict(1, [0, 0], values, value), False)


class WideTest(unittest.TestCase):

    def test_counts(self):
        for bits, masks, values in wide_systems():
            self.assertEqual(solution_count(bits, masks, values), support.slow_count(bits, masks, values))

    def test_conflicts(self):
        for bits, masks, values in wide_systems():
            found = conflict(bits, masks, values)
            self.assertIs(found is None, support.slow_count(bits, masks, values) > 0)
            if found is not None:
                self.assertTrue(support.is_index_list(found, len(masks)))
                self.assertEqual(support.picked(masks, found), 0)
                self.assertEqual(sum(values[at] for at in found) % 2, 1)
                self.assertIs(shows_conflict(bits, masks, values, found), True)
                self.assertIs(shows_conflict(bits, masks, [0] * len(masks), found), False)

    def test_numbering(self):
        chance = random.Random(22)
        for bits, masks, values in wide_systems():
            count = support.slow_count(bits, masks, values)
            indices = {0, 1, count // 2, count - 2, count - 1} | {chance.randrange(count) for _ in range(3 if count else 0)}
            for index in sorted(index for index in indices if 0 <= index < count):
                place = nth_solution(bits, masks, values, index)
                self.assertTrue(0 <= place < 2 ** 60)
                self.assertEqual([int(support.odd(place, mask)) for mask in masks], values)
                self.assertEqual(support.slow_index(bits, masks, values, place), index)
                self.assertEqual(solution_index(bits, masks, values, place), index)

    def test_no_solution_has_no_index(self):
        chance = random.Random(23)
        for bits, masks, values in wide_systems():
            for place in support.some_places(60, chance, 4):
                index = solution_index(bits, masks, values, place)
                fits = [int(support.odd(place, mask)) for mask in masks] == values
                self.assertIs(index is None, not fits)

    def test_no_masks(self):
        for index in (0, 1, 2 ** 59, 12345678901234567, 2 ** 60 - 1):
            self.assertEqual(nth_solution(60, [], [], index), index)
            self.assertEqual(solution_index(60, [], [], index), index)
        self.assertIsNone(conflict(60, [], []))
        self.assertIs(shows_conflict(60, [], [], []), False)

    def test_too_great_an_index(self):
        for bits, masks, values in wide_systems():
            count = support.slow_count(bits, masks, values)
            for index in (count, count + 1, 2 ** 60, 10 ** 79, support.HUGE):
                self.assertRaises(InvalidNumber, nth_solution, bits, masks, values, index)

    def test_no_solutions(self):
        self.assertEqual(solution_count(60, [0] * 100, [0] * 99 + [1]), 0)
        self.assertEqual(conflict(60, [0] * 100, [0] * 99 + [1]), [99])
        self.assertRaises(InvalidNumber, nth_solution, 60, [0] * 100, [0] * 99 + [1], 0)
        self.assertIsNone(solution_index(60, [0] * 100, [0] * 99 + [1], 5))
        self.assertRaises(InvalidNumber, nth_solution, 1, [1, 1], [0, 1], 0)


if __name__ == "__main__":
    unittest.main()
