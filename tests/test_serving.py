"""Promise [25]: bits that serve, and what shows that bits do or do not."""

import itertools
import random
import unittest

from bitstages import errors
from bitstages.fewest import barring_sets, best_twice, fewest_stages, serves, serving_sequence, shows_barring
from bitstages.fewest import shows_serving
from bitstages.mappings import prefix, renamed, reversal, rotation
from tests import support

SWAP = ([2, 1], 0)
GRAY = ([3, 6, 4], 0)
KNOT = ([7, 3, 5], 0)
HELPED = ([1, 5, 2, 17, 8, 65, 32], 0)
UNITS = [1, 2, 4, 8, 16, 32, 64]


def once_beside(mapping, mask):
    """The changed bits that are not in a mask."""
    return [bit for bit in support.slow_changed(mapping) if not mask >> bit & 1]


def is_good(mapping, mask, sequence):
    """Whether a sequence of the bits once is one as it is defined."""
    return all(support.slow_fits(mapping, sum(2 ** bit for bit in sequence[:many]), mask)
               for many in range(1, len(sequence) + 1))


def slow_barring(mapping, mask, value):
    """Whether any value is a barring list, as it is defined."""
    bits = once_beside(mapping, mask)
    whole = sum(2 ** bit for bit in bits)
    if type(value) is not list or len(value) > 128:
        return False
    if not all(type(item) is int and item >= 0 and item | whole == whole for item in value):
        return False
    if 0 not in value or whole in value:
        return False
    for item in value:
        for bit in bits:
            larger = item | 2 ** bit
            if larger not in value and support.slow_fits(mapping, larger, mask):
                return False
    return True


def least_that_serves(mapping, masks):
    """The least number of stages and the least mask with it, of those masks that serve."""
    costs = [(len(once_beside(mapping, mask)) + 2 * bin(mask).count("1"), mask) for mask in masks if serves(mapping, mask)]
    return min(costs)


def few_mappings():
    chance = random.Random(251)
    for bits in (1, 2):
        yield from support.all_mappings(bits)
    for at, mapping in enumerate(support.all_mappings(3)):
        if at % 5 == 0:
            yield mapping
    for turn in range(24):
        if turn % 2:
            yield support.some_mapping(4, chance)
        else:
            yield support.slow_mapping(4, support.some_run(4, 5, chance))


class ExamplesTest(unittest.TestCase):

    def test_examples(self):
        self.assertEqual([serves(HELPED, 1), serves(HELPED, 0), best_twice(HELPED), best_twice(SWAP)], [True, False, 1, 1])
        self.assertEqual(serving_sequence(SWAP, 1), [1])
        self.assertIs(shows_serving(HELPED, 1, [1, 2, 3, 4, 5, 6]), True)
        self.assertIs(shows_serving(HELPED, 1, [2, 1, 3, 4, 5, 6]), False)
        self.assertIs(shows_barring(SWAP, 0, [0]), True)


class CaseOfServing(unittest.TestCase):

    def check(self, mapping, mask, wanted):
        sequence, barring = serving_sequence(mapping, mask), barring_sets(mapping, mask)
        self.assertIs(serves(mapping, mask), wanted)
        self.assertEqual([sequence is None, barring is None], [not wanted, wanted])
        if wanted:
            self.assertEqual(sorted(sequence), once_beside(mapping, mask))
            self.assertEqual({type(bit) for bit in sequence}, {int} if sequence else set())
            self.assertTrue(is_good(mapping, mask, sequence))
            self.assertIs(shows_serving(mapping, mask, sequence), True)
        else:
            self.assertEqual({type(item) for item in barring}, {int})
            self.assertTrue(slow_barring(mapping, mask, barring))
            self.assertIs(shows_barring(mapping, mask, barring), True)


class FewBitsTest(CaseOfServing):

    def test_against_all_sequences(self):
        seen = set()
        for mapping in few_mappings():
            bits = len(mapping[0])
            for mask in range(2 ** bits):
                sequences = [list(each) for each in itertools.permutations(once_beside(mapping, mask))]
                good = [each for each in sequences if is_good(mapping, mask, each)]
                self.check(mapping, mask, good != [])
                self.assertEqual([each for each in sequences if shows_serving(mapping, mask, each)], good)
                seen.add((bits, good != []))
        self.assertEqual(seen, set(itertools.product((1, 2, 3, 4), (True, False))) - {(1, False)})

    def test_all_barring_lists(self):
        """Whether a list is one, for all lists of masks of few bits."""
        found = 0
        threes = [rotation(3, 1), rotation(3, 2), reversal(3), GRAY, KNOT, ([1, 4, 2], 1), ([2, 5, 1], 0), ([6, 5, 7], 3)]
        for mapping in [mapping for mapping in few_mappings() if len(mapping[0]) < 3] + threes:
            bits = len(mapping[0])
            for mask in range(2 ** bits):
                for chosen in support.subsets(2 ** bits):
                    wanted = slow_barring(mapping, mask, chosen)
                    found += wanted
                    self.assertIs(shows_barring(mapping, mask, chosen), wanted)
                    if wanted:
                        self.assertIs(serves(mapping, mask), False)
        self.assertGreater(found, 20)

    def test_best(self):
        for mapping in few_mappings():
            least, mask = least_that_serves(mapping, range(2 ** len(mapping[0])))
            self.assertEqual([best_twice(mapping), fewest_stages(mapping)], [mask, least])


class SevenBitsTest(CaseOfServing):

    def test_helped(self):
        for mask in range(128):
            wanted = any(is_good(HELPED, mask, list(each)) for each in itertools.permutations(once_beside(HELPED, mask)))
            self.check(HELPED, mask, wanted)
        self.assertEqual(least_that_serves(HELPED, range(128)), (8, 1))
        self.assertEqual(least_that_serves(HELPED, range(0, 128, 2))[0], 9)

    def test_drawn_ones(self):
        chance = random.Random(253)
        for turn in range(8):
            mapping = support.some_mapping(7, chance)
            if turn % 2:
                mapping = support.slow_mapping(7, support.some_run(7, 8, chance))
            for mask in range(128):
                self.check(mapping, mask, serves(mapping, mask))
            least, mask = least_that_serves(mapping, range(128))
            self.assertEqual([best_twice(mapping), fewest_stages(mapping)], [mask, least])

    def test_best_of_several(self):
        for mapping, mask in ((reversal(7), 7), (rotation(7, 3), 1), (prefix(7), 0), ((UNITS, 0), 0), ((UNITS, 127), 0),
                              (renamed(HELPED, [6, 5, 4, 3, 2, 1, 0]), 64), (reversal(2), 1), (([1], 1), 0),
                              (([1, 4, 2], 0), 2)):
            self.assertEqual(best_twice(mapping), mask)

    def test_one_bit_or_two(self):
        """A bit that is not changed serves as well as two changed ones: the least mask is the best."""
        two_pairs = ([1, 5, 2, 17, 8], 0)
        for order, masks in (([0, 1, 2, 3, 4], [1, 10]), ([4, 0, 1, 2, 3], [16, 5]), ([2, 0, 1, 3, 4], [4, 9])):
            mapping = renamed(two_pairs, order)
            self.assertEqual([serves(mapping, mask) for mask in masks], [True, True])
            self.assertEqual([best_twice(mapping), fewest_stages(mapping)], [min(masks), 6])

    def test_long_barring_lists(self):
        """A ring of all bits lets no bit be the first one; the masks of up to five bits may all stand in a list."""
        mapping = rotation(7, 1)
        many = [item for item in range(128) if bin(item).count("1") < 6]
        self.assertEqual([barring_sets(mapping, 0), len(many)], [[0], 120])
        for value in (many, many[::-1], many + many[-8:], [0] * 128, [5, 0] * 64, many[:100], many[:1] * 8 + many):
            self.assertIs(slow_barring(mapping, 0, value), True)
            self.assertIs(shows_barring(mapping, 0, value), True)
        for value in (many + many[:9], [0] * 129, [0] * 2400, many + [127], many[1:], many + [63], many + [126], [63, 0],
                      list(range(127)), many[:1] + [128], many[:1] + [-1], many[:127] + [None], many + [True], tuple(many)):
            self.assertIs(shows_barring(mapping, 0, value), False)


class ShowsServingTest(unittest.TestCase):

    def test_any_value(self):
        for mapping, mask in ((SWAP, 0), (SWAP, 1), (SWAP, 3), (GRAY, 0), (HELPED, 1), (([1], 0), 0), (([1], 1), 0)):
            bits = once_beside(mapping, mask)
            for value in support.odd_values():
                fits = type(value) is list and all(type(bit) is int for bit in value) and sorted(value) == bits
                wanted = fits and is_good(mapping, mask, value)
                self.assertIs(shows_serving(mapping, mask, value), wanted, (mapping, mask, value))

    def test_nearly_a_sequence(self):
        good = [1, 2, 3, 4, 5, 6]
        for value in (good + [6], good + [0], good[:-1], good[1:], [1, 1, 2, 3, 4, 5, 6], [1, 2, 3, 4, 5, 5], [0] + good,
                      [1, 2, 3, 4, 5, 7], [-1] + good, [True, 2, 3, 4, 5, 6], [1, 2, 3, 4, 5, None], [1, 2, 3, 4, 5, "6"],
                      [good], (1, 2, 3, 4, 5, 6), "123456", good * 400, good[:-1] + [[6]], good[::-1], []):
            self.assertIs(shows_serving(HELPED, 1, value), False, value)
        self.assertIs(shows_serving(HELPED, 1, [3, 4, 5, 6, 1, 2]), is_good(HELPED, 1, [3, 4, 5, 6, 1, 2]))

    def test_bits_that_are_not_changed(self):
        """They do not stand in the sequence, and may be bits twice."""
        mapping = ([1, 4, 2, 8], 0)
        for mask, value in ((2, [2]), (3, [2]), (10, [2]), (4, [1]), (5, [1]), (6, []), (7, []), (15, [])):
            self.assertEqual(serving_sequence(mapping, mask), value)
            self.assertIs(shows_serving(mapping, mask, value), True)
            for wrong in (value + [0], value + [3], [3] + value, value + [1], value + [2], value + [False]):
                self.assertIs(shows_serving(mapping, mask, wrong), False)
        for mask in (0, 1, 8, 9):
            self.assertIs(serving_sequence(mapping, mask), None)
            self.assertEqual(barring_sets(mapping, mask), [0])

    def test_no_bits_once(self):
        for mapping, mask in ((SWAP, 3), (([1, 2], 0), 0), (([1, 2], 0), 2), (([1], 1), 1), ((UNITS, 0), 127), (HELPED, 126)):
            self.assertEqual([serves(mapping, mask), serving_sequence(mapping, mask)], [True, []])
            self.assertIs(barring_sets(mapping, mask), None)
            self.assertIs(shows_serving(mapping, mask, []), True)
            for value in ([0], [1], [None], (), None, "", {}, 0):
                self.assertIs(shows_serving(mapping, mask, value), False)
            for value in ([], [0], [1], [0, 1], [0, 2]):
                self.assertIs(shows_barring(mapping, mask, value), False)


class ShowsBarringTest(unittest.TestCase):

    def test_any_value(self):
        for mapping, mask in ((SWAP, 0), (SWAP, 1), (GRAY, 0), (HELPED, 0), (([1], 0), 0), (rotation(7, 1), 0)):
            for value in support.odd_values():
                self.assertIs(shows_barring(mapping, mask, value), slow_barring(mapping, mask, value), value)

    def test_nearly_a_list(self):
        """Bit 0 may come first, then nothing; bits 1 and 2 are exchanged."""
        mapping = ([1, 4, 2, 8], 1)
        self.assertEqual(sorted(barring_sets(mapping, 0)), [0, 1])
        for value in ([0, 1], [1, 0], [0, 1, 0, 1]):
            self.assertIs(shows_barring(mapping, 0, value), True, value)
        for value in ([], [1], [0, 1, 2, 3], [0, 1, 4, 5], [0, 1, 2, 3, 4, 5], [0, 1, 2, 3, 6], [0], [0, 0], [0, 1, 2], [0, 1, 4], [0, 1, 7], [0, 1, 6], [0, 1, 2, 3, 4, 5, 6],
                      [0, 1, 8], [0, 1, 9], [0, 1, 16], [0, 1, -1], [0, True], [False, 1], [0, 1, True], [0, 1, None],
                      [0, 1, "2"], [[0, 1]], (0, 1), "01", [0, 1, support.HUGE], [0, 1, -support.HUGE], {"0": 1}):
            self.assertIs(shows_barring(mapping, 0, value), False, value)
        for mask in (2, 4, 6, 7, 15):
            self.assertIs(shows_barring(mapping, mask, [0, 1]), False)
        self.assertEqual([shows_barring(mapping, 8, [0, 1]), shows_barring(mapping, 1, [0]), shows_barring(mapping, 9, [0, 1])],
                         [True, True, False])


class ErrorsTest(unittest.TestCase):

    def calls(self):
        return [serves, serving_sequence, barring_sets, lambda mapping, mask: shows_serving(mapping, mask, []),
                lambda mapping, mask: shows_barring(mapping, mask, [0])]

    def test_eight_bits_and_more(self):
        for bits in (8, 9, 60):
            for mapping in (reversal(bits), prefix(bits), ([2 ** bit for bit in range(bits)], 0)):
                self.assertEqual(support.limit_of(best_twice, mapping), 7)
                for call in self.calls():
                    self.assertEqual(support.limit_of(call, mapping, 0), 7)
                    self.assertEqual(support.limit_of(call, mapping, 2 ** bits - 1), 7)
                    for wrong in (2 ** bits, -1, None, True, support.HUGE):
                        self.assertEqual(support.outcome(call, mapping, wrong), (errors.InvalidPlace, "none"))

    def test_behind_the_mapping(self):
        for mapping, index in ((([1] * 8, 0), 1), ((reversal(8)[0], 256), 8), (([1, 1], 0), 1), (None, None)):
            self.assertEqual(support.outcome(best_twice, mapping), (errors.InvalidMapping, index))
            for call in self.calls():
                self.assertEqual(support.outcome(call, mapping, None), (errors.InvalidMapping, index))

    def test_seven_bits_are_not(self):
        for call in self.calls():
            self.assertEqual(support.outcome(call, reversal(7), 127), "no error")
            self.assertEqual(support.outcome(call, reversal(7), 128), (errors.InvalidPlace, "none"))


if __name__ == "__main__":
    unittest.main()
