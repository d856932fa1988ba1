"""Promise [21]: mappings that go in every order, and what shows it or the opposite."""

import itertools
import random
import unittest

from bitstages.mappings import prefix, renamed, reversal, rotation
from bitstages.oneruns import goes
from bitstages.orders import failing_order, fault_of, goes_always, row_sequence, shows_fault, shows_sequence
from tests import support

SWAP = ([2, 1], 0)
GRAY = ([3, 6, 4], 0)
KNOT = ([7, 3, 5], 0)


def has(mapping, bit, other):
    return mapping[0][bit] >> other & 1 == 1


def is_bit_list(mapping, value):
    """Whether any value is a list of different bits."""
    bits = len(mapping[0])
    return type(value) is list and all(type(bit) is int and 0 <= bit < bits for bit in value) and \
        len(set(value)) == len(value)


def slow_shows_fault(mapping, value):
    if not is_bit_list(mapping, value) or not value:
        return False
    if len(value) == 1:
        return not has(mapping, value[0], value[0])
    return all(has(mapping, value[at - 1], value[at]) for at in range(len(value)))


def slow_shows_sequence(mapping, value):
    bits = len(mapping[0])
    if not is_bit_list(mapping, value) or len(value) != bits:
        return False
    return all(has(mapping, bit, bit) and not any(has(mapping, bit, later) for later in value[at + 1:])
               for at, bit in enumerate(value))


def bit_lists(bits):
    """All lists of different bits."""
    for size in range(bits + 1):
        for value in itertools.permutations(range(bits), size):
            yield list(value)


def with_rows(bits, changes):
    """The mapping with unit rows, but for some."""
    rows = [2 ** bit for bit in range(bits)]
    for bit, row in changes.items():
        rows[bit] = row
    return rows, 0


def few_mappings():
    chance = random.Random(91)
    for bits in (1, 2, 3):
        for mapping in support.all_mappings(bits):
            if mapping[1] in (0, 2):
                yield mapping
    for turn in range(60):
        mapping, _ = support.some_triangle(4, chance)
        rows, offset = mapping
        if turn % 2:
            rows = list(rows)
            rows[chance.randrange(4)] ^= 2 ** chance.randrange(4)
        yield (rows, offset) if support.slow_rank(rows) == 4 else support.some_mapping(4, chance)


def rings(bits, chance):
    """Mappings with just one ring of bits, whose rows have themselves, and a shorter ring in some."""
    for size in (2, 3, 4, bits - 1):
        ring = chance.sample(range(bits), size)
        last = chance.choice([bit for bit in range(bits) if bit not in ring])
        changes = {bit: 2 ** bit + 2 ** later for bit, later in zip(ring, ring[1:])}
        changes[ring[-1]] = 2 ** ring[-1] + 2 ** ring[0] + 2 ** last
        changes[last] = 2 ** last + 2 ** ring[0]
        mapping = with_rows(bits, changes)
        if support.slow_rank(mapping[0]) == bits:
            yield mapping


class ExamplesTest(unittest.TestCase):

    def test_examples(self):
        self.assertEqual([goes_always(GRAY), goes_always(SWAP)], [True, False])
        self.assertEqual([row_sequence(GRAY), row_sequence(KNOT)], [[2, 1, 0], None])
        self.assertEqual([fault_of(GRAY), failing_order(GRAY)], [None, None])
        self.assertEqual([shows_fault(KNOT, [0, 1]), shows_fault(KNOT, [1, 2]), shows_fault(SWAP, [0])], [True, False, True])
        self.assertEqual([shows_sequence(GRAY, [2, 1, 0]), shows_sequence(GRAY, [0, 1, 2])], [True, False])


class CaseOfOrders(unittest.TestCase):

    def check_always(self, mapping):
        bits = len(mapping[0])
        self.assertIs(goes_always(mapping), True)
        self.assertIs(fault_of(mapping), None)
        self.assertIs(failing_order(mapping), None)
        sequence = row_sequence(mapping)
        self.assertEqual(sorted(sequence), list(range(bits)))
        self.assertTrue(slow_shows_sequence(mapping, sequence))
        self.assertIs(shows_sequence(mapping, sequence), True)

    def check_not_always(self, mapping):
        bits = len(mapping[0])
        self.assertIs(goes_always(mapping), False)
        self.assertIs(row_sequence(mapping), None)
        fault, order = fault_of(mapping), failing_order(mapping)
        self.assertTrue(slow_shows_fault(mapping, fault), fault)
        self.assertIs(shows_fault(mapping, fault), True)
        self.assertEqual(sorted(order), list(range(bits)))
        self.assertEqual({type(bit) for bit in fault + order}, {int})
        return order


class FewBitsTest(CaseOfOrders):

    def test_against_all_orders(self):
        seen = set()
        for mapping in few_mappings():
            bits = len(mapping[0])
            failing = [order for order in support.orders_of(bits) if not support.slow_goes(mapping, order)]
            seen.add((bits, failing == []))
            if failing:
                self.assertIn(self.check_not_always(mapping), failing)
            else:
                self.check_always(mapping)
        self.assertEqual(seen, set(itertools.product((1, 2, 3, 4), (True, False))) - {(1, False)})

    def test_counts(self):
        for bits, many in ((1, 2), (2, 12), (3, 200)):
            self.assertEqual(sum(goes_always(mapping) for mapping in support.all_mappings(bits)), many)

    def test_shows_all_lists(self):
        for mapping in few_mappings():
            bits = len(mapping[0])
            lists = list(bit_lists(bits))
            sequences = [value for value in lists if shows_sequence(mapping, value)]
            faults = [value for value in lists if shows_fault(mapping, value)]
            self.assertEqual(sequences, [value for value in lists if slow_shows_sequence(mapping, value)])
            self.assertEqual(faults, [value for value in lists if slow_shows_fault(mapping, value)])
            self.assertEqual([sequences == [], faults == []], [row_sequence(mapping) is None, fault_of(mapping) is None])


class ManyBitsTest(CaseOfOrders):

    def test_triangles(self):
        chance = random.Random(92)
        for bits in (9, 31, 60, 60):
            for share in (0, 0.05, 0.5, 1):
                mapping, sequence = support.some_triangle(bits, chance, share)
                self.check_always(mapping)
                self.assertIs(shows_sequence(mapping, sequence), True)
                order = chance.sample(range(bits), bits)
                self.assertIs(shows_sequence(mapping, order), slow_shows_sequence(mapping, order))
                self.assertIs(goes(mapping, order), True)

    def test_one_row_that_lacks_its_bit(self):
        chance = random.Random(93)
        for mapping in (reversal(60), rotation(60, 7), support.some_mapping(60, chance), with_rows(60, {3: 8 + 2 ** 50, 50: 8})):
            self.assertIs(goes(mapping, self.check_not_always(mapping)), False)

    def test_rings(self):
        chance = random.Random(94)
        found = 0
        for bits in (5, 9, 60, 60, 60):
            for mapping in rings(bits, chance):
                found += 1
                self.assertIs(goes(mapping, self.check_not_always(mapping)), False)
        self.assertGreater(found, 12)

    def test_one_ring_of_all_bits(self):
        """The one ring goes through 59 bits, or through all: another list of bits is no fault."""
        for many in (59, 60):
            rows = [2 ** bit + 2 ** ((bit + 1) % many) for bit in range(many)] + [2 ** bit for bit in range(many, 60)]
            if many == 59:
                rows[58] += 2 ** 59
                rows[59] += 2 ** 0
            else:
                rows[7] += 2 ** 30
            mapping = rows, 0
            self.assertEqual(support.slow_rank(rows), 60)
            ring = list(range(many))
            self.assertIs(goes(mapping, self.check_not_always(mapping)), False)
            for turned in (ring, ring[11:] + ring[:11], ring[-1:] + ring[:-1]):
                self.assertIs(shows_fault(mapping, turned), True)
            for wrong in (ring[::-1], ring[:-1], ring[1:], ring + ring[:1], ring[1:] + ring[1:2], [5], [5, 6], []):
                self.assertIs(shows_fault(mapping, wrong), False)

    def test_ring_with_short_ways(self):
        """A ring whose rows have further bits of it: its own bits first may be a good beginning."""
        chance = random.Random(95)
        for _ in range(20):
            rows = [2 ** bit + 2 ** ((bit + 1) % 60) for bit in range(60)]
            for _ in range(30):
                rows[chance.randrange(60)] |= 2 ** chance.randrange(60)
            if support.slow_rank(rows) == 60:
                self.assertIs(goes((rows, 0), self.check_not_always((rows, 0))), False)

    def test_renamed_prefix(self):
        chance = random.Random(96)
        order = chance.sample(range(60), 60)
        mapping = renamed(prefix(60), order)
        self.check_always(mapping)
        self.assertEqual(row_sequence(mapping), order[::-1])
        self.assertIs(shows_sequence(mapping, order[::-1]), True)
        self.assertIs(shows_sequence(mapping, order), False)


class AnyValueTest(unittest.TestCase):

    def test_any_value(self):
        for mapping in (SWAP, GRAY, KNOT, ([1], 0), ([1], 1), ([1, 2, 4], 3), reversal(60)):
            for value in support.odd_values():
                self.assertIs(shows_sequence(mapping, value), slow_shows_sequence(mapping, value), value)
                self.assertIs(shows_fault(mapping, value), slow_shows_fault(mapping, value), value)

    def test_nearly_a_sequence(self):
        for value in ([2, 1], [2, 1, 0, 0], [2, 2, 1, 0], [2, 1, 1], [1, 2, 0], [2, 0, 1], [0, 1, 2], [2, 1, 3], [3, 2, 1, 0],
                      [2, 1, -1], [2, 1, False], [2, True, 0], [2, 1, None], [2, 1, "0"], [[2, 1, 0]], (2, 1, 0), "210",
                      [2, 1, 0] * 800, [2, 1, [0]], [2, 1, support.HUGE], {"2": 1}, [2, 1, 0, None], []):
            self.assertIs(shows_sequence(GRAY, value), False, value)
        for mapping in (SWAP, KNOT):
            for order in support.orders_of(len(mapping[0])):
                self.assertIs(shows_sequence(mapping, order), False)
        self.assertEqual([shows_sequence(([1], 1), [0]), shows_sequence(([1], 1), [])], [True, False])
        for order in support.orders_of(3):
            self.assertIs(shows_sequence(([1, 2, 4], 7), order), True)

    def test_nearly_a_fault(self):
        ring = ([3, 6, 12, 25, 17], 0)
        self.assertEqual(support.slow_rank(ring[0]), 5)
        for value in ([0, 1, 2, 3], [1, 2, 3, 0], [3, 0, 1, 2], [3, 4, 0, 1, 2], [0, 1, 2, 3, 4]):
            self.assertIs(shows_fault(ring, value), True, value)
        for value in ([0, 1, 2, 3, 0], [0, 1, 2], [1, 2, 3], [0, 2, 3], [3, 2, 1, 0], [0, 1, 2, 4], [0, 1, 2, 3, 0, 1, 2, 3],
                      [0, 0], [0], [1], [4], [], [0, 1, 2, 5], [-1], [5], [False, 1, 2, 3], [0, True, 2, 3], (0, 1, 2, 3),
                      [0, 1, 2, None], [0, 1, 2, "3"], [0, 1, 2, [3]], [[0, 1, 2, 3]], [0, 1, 2, 3] * 600, "0123"):
            self.assertIs(shows_fault(ring, value), False, value)

    def test_one_bit_lists(self):
        self.assertEqual([shows_fault(SWAP, value) for value in ([0], [1], [0, 1], [1, 0], [0, 0], [2], [True], [False])],
                         [True, True, True, True, False, False, False, False])
        self.assertEqual([shows_fault(GRAY, [bit]) for bit in range(3)], [False] * 3)
        self.assertEqual([shows_fault(([2, 3], 0), value) for value in ([0], [1], [0, 1], [1, 0])], [True, False, True, True])
        for mapping in (([1], 0), ([1], 1)):
            self.assertEqual([shows_fault(mapping, [0]), fault_of(mapping), failing_order(mapping)], [False, None, None])


if __name__ == "__main__":
    unittest.main()
