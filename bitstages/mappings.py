"""Mappings: ends of places, and mappings made from others."""

from bitstages.affine import end_by, joined, repeated, reverted, units
from bitstages.checks import check_below, check_bits, check_index, check_integer, check_mapping, check_number
from bitstages.checks import check_order, check_own_order, check_place, has_mapping_shape, wrong_part
from bitstages.errors import UnlikeBits
from bitstages.solving import count_solved, nth_solved, solved
from bitstages.sums import choice_of, indices_of


def is_mapping(value):
    """Return whether any value is a mapping."""
    return has_mapping_shape(value) and wrong_part(value) is None


def end_of(mapping, place):
    """Return the end of a place."""
    check_mapping(mapping)
    check_place(len(mapping[0]), place)
    return end_by(mapping, place)


def begin_of(mapping, place):
    """Return the place whose end a place is."""
    check_mapping(mapping)
    check_place(len(mapping[0]), place)
    return end_by(reverted(mapping), place)


def then(mapping, other_mapping):
    """Return the mapping that does the first mapping and then the other one."""
    check_mapping(mapping)
    check_mapping(other_mapping)
    if len(mapping[0]) != len(other_mapping[0]):
        raise UnlikeBits("the mappings have not as many bits")
    return joined(mapping, other_mapping)


def inverse(mapping):
    """Return the mapping that leads back."""
    check_mapping(mapping)
    return reverted(mapping)


def power(mapping, times):
    """Return the mapping that does a mapping so many times, back if times is below 0."""
    check_mapping(mapping)
    check_number(times, -(10 ** 30), 10 ** 30)
    if times < 0:
        return repeated(reverted(mapping), -times)
    return repeated(mapping, times)


def bit_move(order, offset):
    """Return the mapping by which bit k of the end is bit order[k], turned if the offset has bit k."""
    check_own_order(order)
    check_place(len(order), offset)
    return [1 << bit for bit in order], offset


def is_bit_move(mapping):
    """Return whether each bit of the end is one bit of the place, turned or not."""
    check_mapping(mapping)
    return all([row & row - 1 == 0 for row in mapping[0]])


def reversal(bits):
    """Return the bit move in which the bits come in the reverse sequence."""
    check_bits(bits)
    return units(bits)[::-1], 0


def rotation(bits, number):
    """Return the bit move in which bit k of the end is the bit that is number bits below, around."""
    check_bits(bits)
    check_integer(number)
    return [1 << (bit - number) % bits for bit in range(bits)], 0


def prefix(bits):
    """Return the mapping by which x goes to x ^ x >> 1."""
    check_bits(bits)
    top = 1 << bits - 1
    return [unit | unit << 1 if unit < top else unit for unit in units(bits)], 0


def renamed(mapping, order):
    """Return the mapping that does the same with bit order[k] in the place of each bit k."""
    check_mapping(mapping)
    rows, offset = mapping
    check_order(len(rows), order)
    moved = [0] * len(rows)
    for bit, row in zip(order, rows):
        moved[bit] = _renamed_place(row, order)
    return moved, _renamed_place(offset, order)


def changed_bits(mapping):
    """Return the ascending list of the bits that a mapping changes."""
    check_mapping(mapping)
    rows, offset = mapping
    return [bit for bit, row in enumerate(rows) if row != 1 << bit or offset >> bit & 1]


def kept_count(mapping):
    """Return the number of the places that are their own ends."""
    check_mapping(mapping)
    return count_solved(_kept(mapping))


def nth_kept(mapping, index):
    """Return the place with an index, ascending, of those that are their own ends."""
    check_mapping(mapping)
    check_index(index)
    found = _kept(mapping)
    check_below(index, count_solved(found))
    return nth_solved(found, index)


def _renamed_place(place, order):
    return choice_of([order[bit] for bit in indices_of(place)])


def _kept(mapping):
    """Solve for the places whose bits are turned just where the offset turns them back."""
    rows, offset = mapping
    return solved(len(rows), [row ^ 1 << bit for bit, row in enumerate(rows)], offset)
