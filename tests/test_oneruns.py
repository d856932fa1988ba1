"""Promise [18]: the run along an order that makes a mapping, or values that meet."""

import itertools
import random
import unittest

from bitstages.mappings import is_mapping, prefix, reversal, rotation
from bitstages.oneruns import first_crowded, goes, meeting, one_run, shows_meeting
from bitstages.stages import run_mapping
from tests import support

SWAP = ([2, 1], 0)
GRAY = ([3, 6, 4], 0)
KNOT = ([7, 3, 5], 0)


def slow_shows(mapping, order, value):
    """Whether any value is a meeting, as it is defined."""
    if type(value) is not tuple or len(value) != 3 or {type(item) for item in value} != {int}:
        return False
    number, one, other = value
    bits = len(order)
    if not 1 <= number <= bits or not 0 <= one < 2 ** bits or not 0 <= other < 2 ** bits or one == other:
        return False
    first, last = order[:number], order[number:]
    one_end, other_end = support.slow_end(mapping, one), support.slow_end(mapping, other)
    return all(one >> bit & 1 == other >> bit & 1 for bit in last) and \
        all(one_end >> bit & 1 == other_end >> bit & 1 for bit in first)


def drawn_mappings(bits, many, chance):
    """Mappings by chance, some of which go in some order."""
    for turn in range(many):
        if turn % 3 == 0:
            yield support.some_mapping(bits, chance)
        elif turn % 3 == 1:
            order = chance.sample(range(bits), bits)
            yield support.slow_mapping(bits, support.some_run_along(order, chance))
        else:
            yield support.slow_mapping(bits, support.some_run(bits, bits + 1, chance))


def drawn_orders(bits, many, chance):
    return [chance.sample(range(bits), bits) for _ in range(many)] + [list(range(bits)), list(range(bits))[::-1]]


class ExamplesTest(unittest.TestCase):

    def test_examples(self):
        self.assertEqual(one_run(GRAY, [0, 1, 2]), [(0, 2, 0), (1, 4, 0), (2, 0, 0)])
        self.assertEqual(one_run(GRAY, [2, 1, 0]), [(2, 0, 0), (1, 4, 0), (0, 6, 0)])
        self.assertIs(one_run(SWAP, [0, 1]), None)
        self.assertEqual([goes(KNOT, [1, 2, 0]), goes(KNOT, [0, 1, 2])], [True, False])
        self.assertIs(shows_meeting(SWAP, [0, 1], (1, 0, 1)), True)
        self.assertIs(shows_meeting(SWAP, [0, 1], (2, 0, 1)), False)
        self.assertIs(meeting(GRAY, [1, 0, 2]), None)
        self.assertEqual(first_crowded(KNOT, [0, 1, 2]), 2)


class CaseOfOneRun(unittest.TestCase):

    def check(self, mapping, order):
        """What the functions return, against values that are moved over all places."""
        number = support.slow_crowded(mapping, order)
        run, met = one_run(mapping, order), meeting(mapping, order)
        self.assertIs(goes(mapping, order), number is None)
        self.assertEqual(first_crowded(mapping, order), number)
        if number is None:
            self.assertIs(met, None)
            self.assertEqual([stage[0] for stage in run], order)
            self.assertTrue(all(support.slow_is_stage(len(order), stage) for stage in run))
            for place in range(2 ** len(order)):
                self.assertEqual(support.slow_walk(run, place), support.slow_end(mapping, place))
        else:
            self.assertIs(run, None)
            self.check_meeting(mapping, order, met, number)

    def check_meeting(self, mapping, order, met, number):
        self.assertTrue(slow_shows(mapping, order, met), met)
        self.assertIs(shows_meeting(mapping, order, met), True)
        self.assertGreaterEqual(met[0], number)
        self.assertEqual([type(item) for item in met], [int, int, int])


class FewBitsTest(CaseOfOneRun):

    def test_against_all_runs(self):
        """The runs along an order make unlike mappings: which, is found by walking all of them."""
        for bits in (1, 2, 3):
            mappings = list(support.all_mappings(bits))
            for order in support.orders_of(bits):
                made = {}
                for run in itertools.product(*[support.stages_at(bits, bit) for bit in order]):
                    made[tuple(support.slow_walk(run, place) for place in range(2 ** bits))] = list(run)
                self.assertEqual(len(made), 2 ** (bits * bits))
                found = 0
                for mapping in mappings:
                    run = made.get(tuple(support.slow_end(mapping, place) for place in range(2 ** bits)))
                    self.assertEqual(one_run(mapping, order), run)
                    self.assertIs(goes(mapping, order), run is not None)
                    found += run is not None
                self.assertEqual(found, 2 ** (bits * bits))

    def test_all_of_two_bits(self):
        for bits in (1, 2):
            for mapping in support.all_mappings(bits):
                for order in support.orders_of(bits):
                    self.check(mapping, order)

    def test_three_bits(self):
        for mapping in support.all_mappings(3):
            if mapping[1] in (0, 5):
                for order in support.orders_of(3):
                    self.check(mapping, order)

    def test_four_bits(self):
        for mapping in drawn_mappings(4, 24, random.Random(61)):
            for order in support.orders_of(4):
                self.check(mapping, order)

    def test_five_bits(self):
        chance = random.Random(62)
        for mapping in drawn_mappings(5, 30, chance):
            for order in drawn_orders(5, 10, chance):
                self.check(mapping, order)


class ManyBitsTest(CaseOfOneRun):

    def test_runs_and_back(self):
        chance = random.Random(63)
        for bits in (1, 2, 3, 5, 9, 16, 17, 30, 31, 59, 60, 60):
            for order in drawn_orders(bits, 3, chance):
                for run in (support.some_run_along(order, chance), [(bit, 0, 0) for bit in order],
                            [(bit, (2 ** bits - 1) ^ 1 << bit, 1) for bit in order]):
                    mapping = run_mapping(bits, run)
                    self.assertEqual(one_run(mapping, order), run)
                    self.assertIs(goes(mapping, order), True)
                    self.assertIs(meeting(mapping, order), None)
                    self.assertIs(first_crowded(mapping, order), None)

    def test_drawn_mappings(self):
        chance = random.Random(64)
        for bits in (6, 10, 59, 60):
            ends = set()
            for mapping in drawn_mappings(bits, 9, chance):
                for order in drawn_orders(bits, 4, chance):
                    run, met = one_run(mapping, order), meeting(mapping, order)
                    ends.add(run is None)
                    self.assertEqual([goes(mapping, order), first_crowded(mapping, order) is None], [met is None] * 2)
                    self.assertEqual(run is None, met is not None)
                    if run is None:
                        self.check_meeting(mapping, order, met, first_crowded(mapping, order))
                    else:
                        self.assertEqual(run_mapping(bits, run), mapping)
            self.assertEqual(ends, {True} if bits > 10 else ends)

    def test_least_number_by_ranks(self):
        """The values meet as soon as the rows so far, cut down to their bits, are dependent."""
        chance = random.Random(65)
        for bits in (8, 20, 60):
            for mapping in drawn_mappings(bits, 6, chance):
                for order in drawn_orders(bits, 2, chance):
                    fits = [support.slow_fits(mapping, sum(2 ** bit for bit in order[:number])) for number in range(1, bits + 1)]
                    number = None if all(fits) else fits.index(False) + 1
                    self.assertEqual(first_crowded(mapping, order), number)

    def test_known_moves(self):
        up = list(range(60))
        self.assertEqual([first_crowded(reversal(60), order) for order in (up, up[::-1])], [1, 1])
        self.assertEqual(first_crowded(rotation(60, 1), up), 1)
        self.assertEqual([goes(prefix(60), order) for order in (up, up[::-1])], [True, True])
        self.assertEqual(one_run(prefix(60), up), [(bit, 2 << bit, 0) for bit in range(59)] + [(59, 0, 0)])
        whole_ring = ([3 << bit for bit in range(59)] + [2 ** 59 + 3], 0)
        self.assertIs(goes(whole_ring, up), True)
        # The rows of the first 59 bits, cut down to these bits, are a ring, whose exclusive or is 0.
        late = ([3 << bit for bit in range(58)] + [2 ** 59 + 2 ** 58 + 1, 1], 0)
        self.assertTrue(is_mapping(late))
        self.assertEqual([first_crowded(late, up), first_crowded(late, up[::-1])], [59, 1])
        self.assertEqual(meeting(late, up)[0], 59)

    def test_turned_mapping_of_one_bit(self):
        self.assertEqual([one_run(([1], 0), [0]), one_run(([1], 1), [0])], [[(0, 0, 0)], [(0, 0, 1)]])


class ShowsMeetingTest(unittest.TestCase):

    def test_any_value(self):
        for mapping, order in ((SWAP, [0, 1]), (KNOT, [0, 1, 2]), (([1], 1), [0])):
            for value in support.odd_values():
                self.assertIs(shows_meeting(mapping, order, value), False, value)

    def test_all_of_two_bits(self):
        items = [*range(-1, 6), None, True, False]
        values = list(itertools.product(items, repeat=3))
        for mapping in list(support.all_mappings(2))[::3] + [SWAP, ([2, 1], 3), ([3, 1], 0)]:
            for order in support.orders_of(2):
                for value in values:
                    self.assertIs(shows_meeting(mapping, order, value), slow_shows(mapping, order, value))

    def test_all_of_three_bits(self):
        chance = random.Random(66)
        values = list(itertools.product(range(5), range(9), range(9)))
        for mapping in [KNOT, GRAY, reversal(3), rotation(3, 1)] + [support.some_mapping(3, chance) for _ in range(4)]:
            for order in support.orders_of(3):
                for value in values:
                    self.assertIs(shows_meeting(mapping, order, value), slow_shows(mapping, order, value))

    def test_nearly(self):
        number, one, other = 1, 0, 1
        self.assertIs(shows_meeting(SWAP, [0, 1], (number, one, other)), True)
        self.assertIs(shows_meeting(SWAP, [0, 1], (number, other, one)), True)
        for value in ((number, one, one), (number, other, other), (0, one, other), (2, one, other), (3, one, other),
                      (-1, one, other), [number, one, other], (number, one), (number, one, other, 0), (number, one, 4),
                      (number, -1, one), (True, one, other), (number, False, other), (number, one, True),
                      ((number, one, other),), (one, number, other), (number, 2, 0), (number, one, support.HUGE),
                      (support.HUGE, one, other), (None, one, other), (number, "0", other), (number, [0], other)):
            self.assertIs(shows_meeting(SWAP, [0, 1], value), False, value)

    def test_many_bits(self):
        order = list(range(60))
        back = reversal(60)
        for number in (1, 2, 29, 30, 31, 58, 59):
            for bit in range(60):
                meets = bit < number and 59 - bit >= number
                self.assertIs(shows_meeting(back, order, (number, 0, 2 ** bit)), meets)
                self.assertIs(shows_meeting(back, order, (number, 2 ** 60 - 1, 2 ** 60 - 1 - 2 ** bit)), meets)
        self.assertIs(shows_meeting(back, order, (1, 6, 7)), True)
        self.assertIs(shows_meeting(back, order, (60, 6, 7)), False)
        self.assertIs(shows_meeting(back, order, (61, 6, 7)), False)
        self.assertIs(shows_meeting(back, order, (1, 2 ** 60, 2 ** 60 + 1)), False)


if __name__ == "__main__":
    unittest.main()
