"""Promise [24]: the least number of stages that make a mapping."""

import random
import unittest

from bitstages import errors
from bitstages.fewest import best_twice, fewest_stages, shortest_run, stage_bounds
from bitstages.mappings import bit_move, inverse, is_bit_move, prefix, renamed, reversal, rotation
from tests import support

SWAP = ([2, 1], 0)
GRAY = ([3, 6, 4], 0)
KNOT = ([7, 3, 5], 0)
HELPED = ([1, 5, 2, 17, 8, 65, 32], 0)


def identity(bits):
    return [2 ** bit for bit in range(bits)], 0


def all_least_numbers(bits):
    """The dict from each mapping, told by its ends, to the least number of stages, by lists of stages shortest first."""
    stages = [stage for bit in range(bits) for stage in support.stages_at(bits, bit)]
    moves = [tuple(support.slow_move(stage, place) for place in range(2 ** bits)) for stage in stages]
    layer = [tuple(range(2 ** bits))]
    found = {layer[0]: 0}
    while layer:
        longer = []
        for ends in layer:
            for move in moves:
                later = tuple(move[end] for end in ends)
                if later not in found:
                    found[later] = found[ends] + 1
                    longer.append(later)
        layer = longer
    return found


def rings_of(order):
    """The sets of bits that a bit move leads to one another."""
    found = []
    for start in range(len(order)):
        ring, bit = {start}, order[start]
        while bit not in ring:
            ring.add(bit)
            bit = order[bit]
        if ring not in found:
            found.append(ring)
    return found


def slow_count_of_move(order, offset):
    rings = rings_of(order)
    wide = [ring for ring in rings if len(ring) > 1]
    turned = [ring for ring in rings if len(ring) == 1 and offset >> min(ring) & 1]
    return sum(map(len, wide)) + len(wide) + len(turned)


class ExamplesTest(unittest.TestCase):

    def test_examples(self):
        told = [fewest_stages(mapping) for mapping in (SWAP, GRAY, reversal(4), HELPED, reversal(60), ([1, 2], 3))]
        self.assertEqual(told, [3, 2, 6, 8, 90, 2])
        self.assertEqual([stage_bounds(HELPED), len(shortest_run(SWAP))], [(6, 11), 3])


class CaseOfRuns(unittest.TestCase):

    def check_run(self, mapping, many):
        bits = len(mapping[0])
        self.assertEqual(fewest_stages(mapping), many, mapping)
        run = shortest_run(mapping)
        self.assertIs(type(run), list)
        self.assertEqual(len(run), many)
        self.assertTrue(all(support.slow_is_stage(bits, stage) for stage in run))
        self.assertEqual(support.slow_mapping(bits, run), mapping)
        low, high = stage_bounds(mapping)
        self.assertTrue(low <= many <= high)

    def check_too_large(self, mapping):
        for call in (fewest_stages, shortest_run):
            self.assertEqual(support.limit_of(call, mapping), 7)


class BoundsTest(unittest.TestCase):

    def test_none_changed(self):
        for bits in range(1, 61):
            self.assertEqual(stage_bounds(identity(bits)), (0, 0))

    def test_offsets_alone(self):
        chance = random.Random(241)
        for bits in (1, 2, 5, 9, 60):
            for offset in support.some_places(bits, chance, 5):
                many = bin(offset).count("1")
                self.assertEqual(stage_bounds((identity(bits)[0], offset)), (many, max(0, 2 * many - 1)))

    def test_rows(self):
        self.assertEqual([stage_bounds(mapping) for mapping in (SWAP, GRAY, KNOT, ([1], 1), ([1, 2], 2), ([3, 2], 2))],
                         [(2, 3), (2, 3), (3, 5), (1, 1), (1, 1), (2, 3)])
        chance = random.Random(242)
        for bits in (8, 31, 60):
            mapping = support.some_mapping(bits, chance)
            many = len(support.slow_changed(mapping))
            self.assertEqual(stage_bounds(mapping), (many, 2 * many - 1))
        self.assertEqual([stage_bounds(mapping) for mapping in (prefix(60), reversal(60), rotation(60, 1))],
                         [(59, 117), (60, 119), (60, 119)])

    def test_kinds(self):
        self.assertEqual([type(item) for item in stage_bounds(GRAY)], [int, int])
        self.assertIs(type(stage_bounds(identity(3))), tuple)


class FewBitsTest(CaseOfRuns):

    def test_against_all_lists_of_stages(self):
        for bits in (1, 2, 3):
            found = all_least_numbers(bits)
            mappings = list(support.all_mappings(bits))
            self.assertEqual(len(mappings), len(found))
            for mapping in mappings:
                ends = tuple(support.slow_end(mapping, place) for place in range(2 ** bits))
                self.check_run(mapping, found[ends])

    def test_bounds_are_reached(self):
        found = {(fewest_stages(mapping), *stage_bounds(mapping)) for mapping in support.all_mappings(3)}
        self.assertTrue({(3, 3, 5), (4, 3, 5), (3, 2, 3), (2, 2, 3), (1, 1, 1), (0, 0, 0)} <= found)

    def test_a_bit_that_is_not_changed_helps(self):
        self.check_run(HELPED, 8)
        self.check_run(renamed(HELPED, [3, 1, 0, 6, 5, 2, 4]), 8)
        self.check_run((HELPED[0], 126), 8)
        # With its offset bit 0 is changed, too.
        self.check_run((HELPED[0], 1), 8)

    def test_seven_bits(self):
        chance = random.Random(243)
        for turn in range(60):
            bits = 4 + turn % 4
            mapping = support.some_mapping(bits, chance)
            if turn % 3:
                mapping = support.slow_mapping(bits, support.some_run(bits, turn % 9, chance))
                self.assertLessEqual(fewest_stages(mapping), turn % 9)
            many = fewest_stages(mapping)
            self.check_run(mapping, many)
            self.assertEqual(fewest_stages(inverse(mapping)), many)
            self.assertEqual(fewest_stages(renamed(mapping, chance.sample(range(bits), bits))), many)


class BitMovesTest(CaseOfRuns):

    def test_drawn_ones(self):
        chance = random.Random(244)
        for bits in (1, 2, 3, 4, 5, 6, 7, 8, 9, 20, 59, 60):
            for share in (1, 0.5, 0.1):
                order = list(range(bits))
                some = [bit for bit in order if chance.random() < share]
                for bit, other in zip(some, chance.sample(some, len(some))):
                    order[bit] = other
                for offset in support.some_places(bits, chance, 1):
                    self.check_run(bit_move(order, offset), slow_count_of_move(order, offset))

    def test_sixty_bits(self):
        for mapping, many in ((reversal(60), 90), (rotation(60, 1), 61), (rotation(60, 30), 90), (rotation(60, 12), 72),
                              (identity(60), 0), ((identity(60)[0], 2 ** 60 - 1), 60), ((identity(60)[0], 5), 2),
                              ((reversal(60)[0], 2 ** 60 - 1), 90), (bit_move([1, 0, *range(2, 60)], 2 ** 59 + 3), 4)):
            self.check_run(mapping, many)

    def test_as_for_all_mappings(self):
        """For few bits the number is that of the bits that serve best."""
        chance = random.Random(245)
        for turn in range(30):
            bits = 2 + turn % 6
            mapping = bit_move(chance.sample(range(bits), bits), chance.randrange(2 ** bits))
            mask = best_twice(mapping)
            once = [bit for bit in support.slow_changed(mapping) if not mask >> bit & 1]
            self.assertEqual(fewest_stages(mapping), len(once) + 2 * bin(mask).count("1"))

    def test_empty_runs(self):
        for bits in (1, 2, 7, 8, 60):
            self.assertEqual(shortest_run(identity(bits)), [])


class TooLargeTest(CaseOfRuns):

    def test_eight_bits_and_more(self):
        chance = random.Random(246)
        for bits in (8, 9, 10, 33, 60):
            rows = identity(bits)[0]
            for mapping in (prefix(bits), support.some_mapping(bits, chance), ([*rows[:-1], rows[-1] + 1], 0)):
                self.assertIs(is_bit_move(mapping), False)
                self.check_too_large(mapping)
            self.check_run(reversal(bits), bits // 2 * 3)

    def test_seven_bits_are_not(self):
        self.check_run(prefix(7), 6)
        self.check_run(([65, 2, 4, 8, 16, 32, 64], 0), 1)

    def test_behind_the_mapping(self):
        for call in (stage_bounds, fewest_stages, shortest_run):
            self.assertEqual(support.outcome(call, ([1] * 8, 0)), (errors.InvalidMapping, 1))
            self.assertEqual(support.outcome(call, (prefix(8)[0], 256)), (errors.InvalidMapping, 8))


if __name__ == "__main__":
    unittest.main()
