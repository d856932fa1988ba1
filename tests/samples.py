"""For each function of the interface good arguments, and wrong ones with their errors."""

from bitstages import errors, mappings, masks
from tests import support

UNITS = [2 ** bit for bit in range(60)]
NO_INTEGERS = [None, True, False, "", "1", "abc", (), (1,), [], [1], [[1]], {}, {"a": 1}, errors.StageError("text")]
NO_LISTS = [None, True, False, 0, 5, -1, support.HUGE, "", "01", "abc", (), (0,), (0, 1), (0, 1, 2), {}, {"a": 1},
            errors.InvalidMapping(1)]
FAR = [10 ** 79, -10 ** 79, support.HUGE, -support.HUGE]


def all_with(error, values, index="none"):
    return [(value, error, index) for value in values]


def wrong_bits():
    return all_with(errors.InvalidBits, NO_INTEGERS + FAR + [0, -1, 61, 62, -3])


def wrong_places(bits):
    return all_with(errors.InvalidPlace, NO_INTEGERS + FAR + [-1, 2 ** bits, 2 ** bits + 1, -2 ** bits])


def wrong_numbers(*numbers):
    return all_with(errors.InvalidNumber, NO_INTEGERS + list(numbers))


def wrong_masks(bits):
    top = 2 ** bits
    longs = [[0] * 101, [top] * 101, [None] * 101, list(range(2)) * 60, [0] * 2400]
    found = all_with(errors.InvalidMasks, NO_LISTS + longs, None)
    items = [True, False, None, -1, top, support.HUGE, "1", (1,), [1], {}, {"a": 1}, errors.StageError("text")]
    for item in items:
        found += [([item], errors.InvalidMasks, 0), ([0, item], errors.InvalidMasks, 1),
                  ([1, 1, item, 0, None], errors.InvalidMasks, 2), ([0] * 99 + [item], errors.InvalidMasks, 99)]
    return found + [([top, -1], errors.InvalidMasks, 0), ([top - 1, 0, -1, top], errors.InvalidMasks, 2)]


def wrong_values_of_two():
    longs = [[], [0], [1], [0, 0, 0], [2, 2, 2], [None], [0] * 101, [[0, 0]]]
    found = all_with(errors.InvalidValues, NO_LISTS + longs, None)
    for item in [True, False, None, -1, 2, support.HUGE, "1", (1,), [1], {}, errors.StageError("text")]:
        found += [([item, 0], errors.InvalidValues, 0), ([1, item], errors.InvalidValues, 1),
                  ([item, item], errors.InvalidValues, 0)]
    return found


def wrong_mappings():
    none = NO_LISTS + [[], [0], [[1], 0], ([],), ([1],), ([1], 0, 0), ([1, 2], 0, 0), ([1, 2], [0], 0), ((1, 2), 0),
                       ([], 0), ([], None), ([0] * 61, 0), (UNITS + [2 ** 60], 0), (None, 0), ("12", 0), ({}, 0),
                       (5, 0), (True, 0), (0, [1]), ({"a": 1}, 0), ([0] * 2400, 0)]
    found = all_with(errors.InvalidMapping, none, None)
    told = [(([0], 0), 0), (([2], 0), 0), (([-1], 0), 0), (([0], None), 0), (([1, 0], 0), 1), (([1, 1], 0), 1),
            (([1, 4], 0), 1), (([4, 1], 0), 0), (([3, 3], 9), 1), (([3, 1, 2], 0), 2), (([3, 5, 6], 0), 2),
            (([1, 2, 8], 0), 2), (([1, 2, 0], 0), 2), (([0, 0, 0], 0), 0), (([1, 1, None], 0), 1), (([1, None, 1], 0), 1),
            (([None, 1, 1], None), 0), (([1, 2, 3, 99], 0), 2), (([1, 2, 99, 3], 0), 2), (([8, 4, 2, 14], 0), 3),
            ((UNITS[:59] + [6], 0), 59), ((UNITS[:59] + [2 ** 60], 0), 59), ((UNITS[:58] + [2 ** 58 - 1, None], 0), 58),
            ((UNITS[:59] + [2 ** 59 - 1], 0), 59), ((UNITS, 2 ** 60), 60), ((UNITS, -1), 60), ((UNITS, None), 60),
            (([1], 2), 1), (([1], True), 1), (([3, 6, 4], 8), 3), (([1, 2], []), 2), (([1, 1], -1), 1)]
    for item in [True, False, None, -1, 4, support.HUGE, "1", (1,), [1], {}, errors.StageError("text")]:
        told += [(([item, 1], 0), 0), (([2, item], 0), 1), (([2, 1], item), 2), (([item, item], item), 0)]
    return found + [(value, errors.InvalidMapping, index) for value, index in told]


def wrong_orders(bits):
    """Wrong ones where the number of bits is told ahead, at least two."""
    lists = [[], [0] * bits, [1] * bits, list(range(bits - 1)), list(range(bits + 1)), list(range(1, bits + 1)),
             list(range(61)), list(range(bits)) + [0], list(range(-1, bits - 1)), [list(range(bits))],
             list(range(bits - 1)) + [support.HUGE], [False, True] + list(range(2, bits)), [0, True] + list(range(2, bits))]
    for item in [True, False, None, "0", (0,), [0], {}, errors.StageError("text")]:
        lists += [[item] * bits, list(range(bits - 1)) + [item], [item] + list(range(1, bits))]
    return all_with(errors.InvalidOrder, NO_LISTS + [tuple(range(bits))] + lists)


def wrong_own_orders():
    """Wrong ones whatever the number of bits is."""
    lists = [[], [1], [2], [-1], [0, 0], [1, 1], [1, 2], [0, 2], [0, 1, 3], [2, 2, 0], [0, 1, 2, 1], [support.HUGE],
             [False], [True], [False, True], [0, True], [False, 1], [[0]], [[0, 1]], [(0,)], [None], ["0"], ["0", "1"],
             [0, None], [None, 0], [{}], [errors.StageError("text")], list(range(61)), list(range(60)) + [0],
             list(range(59)) + [60], list(range(1, 61)), list(range(59)) + [0], [0] * 2400, list(range(400))]
    return all_with(errors.InvalidOrder, NO_LISTS + [(1, 0)] + lists)


def any_value():
    return ("value", [0], [])


def bits_and_masks():
    return [("bits", 3, wrong_bits()), ("masks", [3, 5], wrong_masks(3))]


def a_system():
    return bits_and_masks() + [("values", [1, 0], wrong_values_of_two())]


def calls():
    """Tuples of a function and its parameters: the name, a good value, the wrong ones with error and index."""
    mask = ("mask", 6, wrong_places(3))
    place = ("place", 6, wrong_places(3))
    index = ("index", 1, wrong_numbers(-1, -10 ** 79, 2, 3, 10 ** 79, support.HUGE))
    mapping = ("mapping", ([3, 6, 4], 5), wrong_mappings())
    swap = ("mapping", ([2, 1], 0), wrong_mappings())
    times = ("times", 5, wrong_numbers(10 ** 30 + 1, -10 ** 30 - 1, *FAR))
    return [
        (masks.rank, bits_and_masks()),
        (masks.sum_of, bits_and_masks() + [mask]),
        (masks.witness, bits_and_masks() + [mask]),
        (masks.witness, bits_and_masks() + [("mask", 7, wrong_places(3))]),
        (masks.dependency, bits_and_masks()),
        (masks.dependency, [("bits", 3, wrong_bits()), ("masks", [3, 5, 3], wrong_masks(3))]),
        (masks.shows_sum, bits_and_masks() + [mask, any_value()]),
        (masks.shows_witness, bits_and_masks() + [mask, any_value()]),
        (masks.shows_dependency, bits_and_masks() + [any_value()]),
        (masks.solution_count, a_system()),
        (masks.nth_solution, a_system() + [index]),
        (masks.solution_index, a_system() + [place]),
        (masks.conflict, a_system()),
        (masks.conflict, [("bits", 60, wrong_bits()), ("masks", [3, 3], wrong_masks(60)),
                          ("values", [1, 0], wrong_values_of_two())]),
        (masks.shows_conflict, a_system() + [any_value()]),
        (mappings.is_mapping, [("value", ([3, 6, 4], 5), [])]),
        (mappings.end_of, [mapping, place]),
        (mappings.begin_of, [mapping, place]),
        (mappings.then, [mapping, ("other_mapping", ([1, 2, 5], 2), wrong_mappings())]),
        (mappings.inverse, [mapping]),
        (mappings.power, [mapping, times]),
        (mappings.bit_move, [("order", [1, 0, 2], wrong_own_orders()), ("offset", 5, wrong_places(3))]),
        (mappings.bit_move, [("order", [0], []), ("offset", 1, wrong_places(1))]),
        (mappings.bit_move, [("order", list(range(60)), []), ("offset", 7, wrong_places(60))]),
        (mappings.is_bit_move, [mapping]),
        (mappings.reversal, [("bits", 3, wrong_bits())]),
        (mappings.rotation, [("bits", 3, wrong_bits()), ("number", 4, wrong_numbers())]),
        (mappings.prefix, [("bits", 3, wrong_bits())]),
        (mappings.renamed, [mapping, ("order", [1, 2, 0], wrong_orders(3))]),
        (mappings.changed_bits, [mapping]),
        (mappings.kept_count, [mapping]),
        (mappings.nth_kept, [swap, index]),
    ]
