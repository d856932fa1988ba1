"""Promise [27]: mappings that agree with ends that were seen."""

import itertools
import random
import unittest

from bitstages import errors
from bitstages.counts import mapping_count
from bitstages.seen import agreeing_count, agrees, clash, shows_clash, some_mapping
from tests import support

GRAY = ([3, 6, 4], 0)


def slow_agrees(mapping, ways):
    return all(support.slow_end(mapping, place) == end for place, end in ways)


def slow_clash(ways, value):
    """Whether any value is a list of indices that shows that no mapping agrees, as it is defined."""
    if not support.is_index_list(value, len(ways)) or len(value) % 2 or len(value) < 2:
        return False
    places = support.picked([place for place, _ in ways], value)
    ends = support.picked([end for _, end in ways], value)
    return (places == 0 and ends != 0) or (places != 0 and ends == 0)


def slow_fitting(bits, ways):
    """Whether places and ends, with a further bit, depend on one another alike, by their ranks."""
    places = [2 ** bits + place for place, _ in ways]
    ends = [2 ** bits + end for _, end in ways]
    both = [place * 4 ** bits + end for place, end in zip(places, ends)]
    return support.slow_rank(places) == support.slow_rank(ends) == support.slow_rank(both)


def ways_of(mapping, places):
    return [(place, support.slow_end(mapping, place)) for place in places]


def few_ways(bits):
    """Lists of ways: none, all single ones, all pairs of few bits, and drawn ones, also with ways twice."""
    chance = random.Random(271)
    every = list(itertools.product(range(2 ** bits), repeat=2))
    yield []
    for way in every:
        yield [way]
        yield [way, way]
    if bits < 3:
        yield from map(list, itertools.product(every, repeat=2))
    for size in (2, 3, 4, 5, 6):
        for turn in range(30):
            mapping = support.some_mapping(bits, chance)
            ways = ways_of(mapping, [chance.randrange(2 ** bits) for _ in range(size)])
            if turn % 3 == 1:
                ways[chance.randrange(size)] = chance.choice(every)
            if turn % 3 == 2:
                ways[chance.randrange(size)] = ways[chance.randrange(size)]
            yield ways


class ExamplesTest(unittest.TestCase):

    def test_examples(self):
        told = [agrees(GRAY, [(5, 7), (0, 0)]), some_mapping(2, [(0, 1), (1, 1)]), clash(2, [(0, 1), (1, 1)]),
                clash(2, [(0, 1), (1, 3)])]
        self.assertEqual(told, [True, None, [0, 1], None])
        self.assertEqual([agreeing_count(2, [(0, 1), (1, 3), (2, 0)][:many]) for many in range(4)], [24, 6, 2, 1])
        self.assertIs(shows_clash(2, [(0, 0), (1, 1), (2, 2), (3, 0)], [0, 3]), True)


class CaseOfWays(unittest.TestCase):

    def check(self, bits, ways, wanted):
        mapping, indices = some_mapping(bits, ways), clash(bits, ways)
        self.assertEqual([mapping is None, indices is None], [not wanted, wanted], ways)
        if wanted:
            rows, offset = mapping
            self.assertIs(type(mapping), tuple)
            self.assertEqual({type(item) for item in rows + [offset]}, {int})
            self.assertEqual([len(rows), support.slow_rank(rows)], [bits, bits])
            self.assertTrue(max(rows + [offset]) < 2 ** bits)
            self.assertTrue(slow_agrees(mapping, ways))
            self.assertIs(agrees(mapping, ways), True)
        else:
            self.assertTrue(slow_clash(ways, indices))
            self.assertIs(shows_clash(bits, ways, indices), True)
            if bits <= 50:
                self.assertEqual(agreeing_count(bits, ways), 0)


class FewBitsTest(CaseOfWays):

    def test_against_all_mappings(self):
        for bits in (1, 2, 3):
            mappings = list(support.all_mappings(bits))
            seen = set()
            for ways in few_ways(bits):
                many = sum(slow_agrees(mapping, ways) for mapping in mappings)
                self.check(bits, ways, many > 0)
                self.assertEqual(agreeing_count(bits, ways), many)
                seen.add(many)
            self.assertEqual(seen, {1: {0, 1, 2}, 2: {0, 1, 2, 6, 24}, 3: {0, 1, 4, 24, 168, 1344}}[bits])

    def test_agrees(self):
        for bits in (1, 2, 3):
            for at, mapping in enumerate(support.all_mappings(bits)):
                if at % 16 == 0 or bits < 3:
                    for place, end in itertools.product(range(2 ** bits), repeat=2):
                        wanted = support.slow_end(mapping, place) == end
                        self.assertIs(agrees(mapping, [(place, end)]), wanted)
                        zero = (0, support.slow_end(mapping, 0))
                        self.assertIs(agrees(mapping, [zero, (place, end), zero]), wanted)
                    self.assertIs(agrees(mapping, []), True)

    def test_shows_all_lists(self):
        for bits in (1, 2, 3):
            for ways in few_ways(bits):
                if len(ways) > 3:
                    found = [value for value in support.subsets(len(ways)) if shows_clash(bits, ways, value)]
                    self.assertEqual(found, [value for value in support.subsets(len(ways)) if slow_clash(ways, value)])
                    self.assertIs(found == [], clash(bits, ways) is None)

    def test_one_way_or_none(self):
        for bits in (1, 2, 3, 30, 60):
            self.check(bits, [], True)
            chance = random.Random(bits)
            for place, end in itertools.product(support.some_places(bits, chance, 2), repeat=2):
                self.check(bits, [(place, end)], True)
                self.check(bits, [(place, end)] * 100, True)
                self.check(bits, [(place, end)] * 99 + [(place, end ^ 1)], False)
                self.check(bits, [(place, end)] * 99 + [(place ^ 1, end)], False)
                self.assertEqual(agreeing_count(min(bits, 50), []), mapping_count(min(bits, 50)))


class ManyBitsTest(CaseOfWays):

    def test_sixty_bits(self):
        chance = random.Random(272)
        for many in (1, 2, 30, 59, 60, 61, 62, 100):
            mapping = support.some_mapping(60, chance)
            ways = ways_of(mapping, [chance.randrange(2 ** 60) for _ in range(many)])
            self.check(60, ways, True)
            self.assertIs(agrees(mapping, ways), True)
            at = chance.randrange(many)
            turned = ways[:at] + [(ways[at][0], ways[at][1] ^ 2 ** chance.randrange(60))] + ways[at + 1:]
            self.assertIs(agrees(mapping, turned), False)
            self.check(60, turned, slow_fitting(60, turned))
            if many not in (59, 60, 61):
                self.assertIs(slow_fitting(60, turned), many < 59)

    def test_few_sums(self):
        """Ways of which many are the exclusive or of three others."""
        chance = random.Random(273)
        for bits in (5, 20, 60):
            mapping = support.some_mapping(bits, chance)
            few = [chance.randrange(2 ** bits) for _ in range(4)]
            places = [support.exclusive_or(chance.sample(few, chance.choice((1, 3)))) for _ in range(100)]
            ways = ways_of(mapping, places)
            self.check(bits, ways, True)
            for at in (0, 50, 99):
                place, end = ways[at]
                self.check(bits, ways[:at] + [(place, end ^ 1)] + ways[at + 1:], False)
                self.check(bits, ways[:at] + [(place ^ 2 ** (bits - 1), end)] + ways[at + 1:], False)

    def test_all_places_tell_the_mapping(self):
        chance = random.Random(274)
        for bits in (1, 4, 6):
            mapping = support.some_mapping(bits, chance)
            ways = ways_of(mapping, chance.sample(range(2 ** bits), 2 ** bits))
            self.assertEqual([some_mapping(bits, ways), agreeing_count(bits, ways)], [mapping, 1])
        mapping = support.some_mapping(60, chance)
        ways = ways_of(mapping, [0] + [2 ** bit for bit in range(60)])
        self.assertEqual(some_mapping(60, ways), mapping)
        self.assertEqual(some_mapping(60, [(place ^ 5 ** 20, support.slow_end(mapping, place ^ 5 ** 20)) for place, _ in ways]),
                         mapping)

    def test_an_even_number_only(self):
        """Three places whose exclusive or is 0 tell nothing, four do."""
        ways = [(1, 1), (2, 2), (3, 7)]
        self.check(3, ways, True)
        self.assertIs(shows_clash(3, ways, [0, 1, 2]), False)
        self.check(3, [(0, 0)] + ways, False)
        self.check(3, [(0, 4)] + ways, True)
        # The other way round: three ends, four ends.
        turned = [(end, place) for place, end in ways]
        self.check(3, turned, True)
        self.check(3, [(0, 0)] + turned, False)
        self.assertEqual(clash(3, [(0, 0)] + turned), [0, 1, 2, 3])

    def test_counts(self):
        chance = random.Random(275)
        for bits in (4, 10, 50):
            mapping = support.some_mapping(bits, chance)
            ways = ways_of(mapping, [0] + [2 ** bit for bit in range(bits)])
            chance.shuffle(ways)
            self.assertEqual(agreeing_count(bits, ways), 1)
            for many in range(1, bits + 1):
                taken = 2 ** (many - 1)
                self.assertEqual(agreeing_count(bits, ways[:many]), agreeing_count(bits, ways[:many + 1]) * (2 ** bits - taken))
            self.assertEqual(agreeing_count(bits, ways[:1]) * 2 ** bits, mapping_count(bits))


class ShowsTest(unittest.TestCase):

    def test_any_value(self):
        for ways in ([], [(0, 0)], [(0, 1), (1, 1)], [(0, 1), (1, 3)], [(0, 0), (1, 1), (2, 2), (3, 0)], [(0, 0)] * 3):
            for value in support.odd_values():
                self.assertIs(shows_clash(2, ways, value), slow_clash(ways, value), (ways, value))

    def test_nearly_a_list(self):
        ways = [(0, 0), (1, 1), (2, 2), (3, 0), (0, 1), (3, 3)]
        for value in ([0, 3], [0, 4], [3, 5], [0, 1, 2, 3], [1, 2, 3, 4, 0, 5][:4], [0, 3, 4, 5]):
            self.assertIs(shows_clash(2, ways, value), slow_clash(ways, value), value)
        self.assertEqual([shows_clash(2, ways, value) for value in ([0, 3], [0, 4], [3, 5])], [True] * 3)
        for value in ([3, 0], [0, 0], [3], [], [0], [0, 3, 3], [0, 3, 4], [0, 0, 3], [0, 6], [-1, 3], [0, 3, 5], [0, 5],
                      [False, 3], [0, True, 3], [0, 3.0], [0, "3"], [0, None], (0, 3), "03", [[0, 3]], [0, [3]], [0, 4, 6, 7],
                      [0, 3] * 1200, [0, support.HUGE], {"0": 3}, [0, 1, 2, 5]):
            self.assertIs(shows_clash(2, ways, value), False, value)


class ErrorsTest(unittest.TestCase):

    def test_too_large(self):
        for bits in range(51, 61):
            for ways in ([], [(0, 0)], [(0, 0), (0, 1)], [(2 ** bits - 1, 2 ** bits - 1)]):
                self.assertEqual(support.limit_of(agreeing_count, bits, ways), 50)
            for wrong in (None, [None], [(0, 2 ** bits)]):
                index = None if wrong is None else 0
                self.assertEqual(support.outcome(agreeing_count, bits, wrong), (errors.InvalidWays, index))

    def test_many_ways(self):
        for call in (some_mapping, clash, agreeing_count, lambda bits, ways: shows_clash(bits, ways, [0]),
                     lambda bits, ways: agrees(GRAY, ways)):
            self.assertEqual(support.outcome(call, 3, [(1, 2)] * 100), "no error")
            self.assertEqual(support.outcome(call, 3, [(1, 2)] * 101), (errors.InvalidWays, None))
            self.assertEqual(support.outcome(call, 3, [(1, 2)] * 99 + [(1, 8)]), (errors.InvalidWays, 99))


if __name__ == "__main__":
    unittest.main()
