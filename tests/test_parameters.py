"""Promise [3]: the errors of the parameters, and which comes first."""

import unittest

from bitstages import errors, mappings, masks
from tests import samples, support

JUNK = [None, True, -1, "x", [None], ([None], 0), 2 ** 70, {"a": 1}]


class EachParameterTest(unittest.TestCase):

    def check(self, function, args, wanted):
        found = support.outcome(function, *args)
        if found != wanted or type(found[1]) is not type(wanted[1]):
            self.fail(f"{function.__name__}{tuple(args)}: {found}, not {wanted}")

    def test_good_arguments(self):
        for function, parameters in samples.calls():
            args = [good for _, good, _ in parameters]
            self.assertEqual(support.outcome(function, *args), "no error", function.__name__)

    def test_wrong_alone(self):
        for function, parameters in samples.calls():
            goods = [good for _, good, _ in parameters]
            for at, (_, _, wrongs) in enumerate(parameters):
                for value, error, index in wrongs:
                    self.check(function, goods[:at] + [value] + goods[at + 1:], (error, index))

    def test_wrong_by_name(self):
        for function, parameters in samples.calls():
            goods = {name: good for name, good, _ in parameters}
            for name, _, wrongs in parameters:
                for value, error, index in wrongs[::5]:
                    found = support.outcome(function, **{**goods, name: value})
                    self.assertEqual(found, (error, index), function.__name__)

    def test_wrong_with_all_behind_it(self):
        for function, parameters in samples.calls():
            goods = [good for _, good, _ in parameters]
            for at, (_, _, wrongs) in enumerate(parameters[:-1]):
                behind = len(parameters) - at - 1
                for turn, (value, error, index) in enumerate(wrongs):
                    junk = [JUNK[(turn + k) % len(JUNK)] for k in range(behind)]
                    self.check(function, goods[:at] + [value] + junk, (error, index))

    def test_first_and_another_one(self):
        for function, parameters in samples.calls():
            goods = [good for _, good, _ in parameters]
            for at, (_, _, wrongs) in enumerate(parameters):
                for later in range(at + 1, len(parameters)):
                    for value, error, index in wrongs[::7]:
                        for other in JUNK[:3]:
                            args = goods[:at] + [value] + goods[at + 1:]
                            args[later] = other
                            self.check(function, args, (error, index))


class BoundsTest(unittest.TestCase):

    def test_bits(self):
        for bits in range(1, 61):
            self.assertEqual(masks.rank(bits, [2 ** bits - 1, 0]), 1)
            self.assertEqual(support.outcome(masks.rank, bits, [2 ** bits]), (errors.InvalidMasks, 0))
            self.assertEqual(len(mappings.prefix(bits)[0]), bits)
            self.assertEqual(len(mappings.reversal(bits)[0]), bits)
            self.assertEqual(len(mappings.rotation(bits, 1)[0]), bits)
        for bits in (0, 61):
            self.assertEqual(support.outcome(masks.rank, bits, []), (errors.InvalidBits, "none"))

    def test_places(self):
        for bits in range(1, 61):
            mapping = ([2 ** bit for bit in range(bits)], 2 ** bits - 1)
            self.assertEqual(mappings.end_of(mapping, 2 ** bits - 1), 0)
            self.assertEqual(mappings.begin_of(mapping, 0), 2 ** bits - 1)
            self.assertEqual(support.outcome(mappings.end_of, mapping, 2 ** bits), (errors.InvalidPlace, "none"))
            self.assertEqual(support.outcome(mappings.begin_of, mapping, 2 ** bits), (errors.InvalidPlace, "none"))
            self.assertEqual(masks.sum_of(bits, [2 ** bits - 1], 2 ** bits - 1), [0])
            self.assertEqual(support.outcome(masks.sum_of, bits, [], 2 ** bits), (errors.InvalidPlace, "none"))
            self.assertEqual(mappings.bit_move(list(range(bits)), 2 ** bits - 1), mapping)
            self.assertEqual(support.outcome(mappings.bit_move, list(range(bits)), 2 ** bits), (errors.InvalidPlace, "none"))

    def test_many_masks(self):
        self.assertEqual(masks.rank(60, [1] * 100), 1)
        self.assertEqual(support.outcome(masks.rank, 60, [1] * 101), (errors.InvalidMasks, None))
        self.assertEqual(masks.solution_count(3, [1] * 100, [1] * 100), 4)
        self.assertEqual(support.outcome(masks.conflict, 3, [1] * 100, [1] * 99), (errors.InvalidValues, None))
        self.assertEqual(support.outcome(masks.conflict, 3, [1] * 100, [1] * 99 + [2]), (errors.InvalidValues, 99))
        self.assertEqual(support.outcome(masks.conflict, 3, [], [0]), (errors.InvalidValues, None))

    def test_orders(self):
        self.assertEqual(mappings.bit_move([0, 1], 2), ([1, 2], 2))
        for order in ([], list(range(61)), list(range(60)) + [0], [1], [0, 2], [0, 0], [False], [0, True], (0,), "0"):
            self.assertEqual(support.outcome(mappings.bit_move, order, 0), (errors.InvalidOrder, "none"))
        for order in ([0], [0, 1, 2], [0, 2], [1, 1], [1, False], (1, 0), [], None):
            self.assertEqual(support.outcome(mappings.renamed, ([2, 1], 0), order), (errors.InvalidOrder, "none"))

    def test_rows_by_all_ahead(self):
        """The index of the first row that is the exclusive or of some ahead of it, by listing all."""
        for rows in ([5, 3, 6, 1], [1, 2, 4, 7], [9, 3, 10, 8], [15, 15, 1, 2], [6, 5, 3, 0], [8, 12, 4, 1], [2, 4, 1, 6]):
            ahead, first = {0}, len(rows)
            for at, row in enumerate(rows):
                if row in ahead:
                    first = at
                    break
                ahead |= {each ^ row for each in ahead}
            self.assertLess(first, 4)
            self.assertEqual(support.outcome(mappings.inverse, (rows, 0)), (errors.InvalidMapping, first))
            self.assertEqual(support.outcome(mappings.inverse, (rows, None)), (errors.InvalidMapping, first))


if __name__ == "__main__":
    unittest.main()
