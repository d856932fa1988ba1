"""The checks of parameters: each raises the error of its parameter."""

from bitstages.errors import InvalidBits, InvalidMapping, InvalidMasks, InvalidNumber
from bitstages.errors import InvalidOrder, InvalidPlace, InvalidRun, InvalidValues, InvalidWays, TooLarge
from bitstages.sums import reduced, widened

MOST_BITS = 60
MOST_MASKS = 100
MOST_STAGES = 400
MOST_WAYS = 100


def is_integer_value(value):
    """Return whether any value is an integer (True and False are none)."""
    return isinstance(value, int) and not isinstance(value, bool)


def is_between(value, low, high):
    """Return whether any value is an integer from low to high."""
    return is_integer_value(value) and low <= value <= high


def first_not_between(items, low, high):
    """Return the index of the first item that is no integer from low to high, else None."""
    for at, item in enumerate(items):
        if not is_between(item, low, high):
            return at
    return None


def is_place(bits, value):
    """Return whether any value is a place."""
    return is_between(value, 0, (1 << bits) - 1)


def is_index_list(value, count):
    """Return whether any value is an ascending list of integers from 0 to count - 1."""
    if not isinstance(value, list) or first_not_between(value, 0, count - 1) is not None:
        return False
    return all([low < high for low, high in zip(value, value[1:])])


def is_order(bits, value):
    """Return whether any value is an order of so many bits."""
    if not isinstance(value, list) or not all([is_integer_value(item) for item in value]):
        return False
    return sorted(value) == list(range(bits))


def is_stage_for(bits, value):
    """Return whether any value is a stage for so many bits."""
    if not isinstance(value, tuple) or len(value) != 3:
        return False
    bit, mask, flip = value
    if not is_between(bit, 0, bits - 1) or not is_place(bits, mask) or not is_between(flip, 0, 1):
        return False
    return not mask >> bit & 1


def is_way(bits, value):
    """Return whether any value is a tuple of two places."""
    return isinstance(value, tuple) and len(value) == 2 and is_place(bits, value[0]) and is_place(bits, value[1])


def has_run_shape(value):
    """Return whether any value is a list of at most 400 items."""
    return isinstance(value, list) and len(value) <= MOST_STAGES


def wrong_stage(bits, items):
    """Return the index of the first item that is no stage, else None."""
    for at, item in enumerate(items):
        if not is_stage_for(bits, item):
            return at
    return None


def is_run_for(bits, value):
    """Return whether any value is a run for so many bits."""
    return has_run_shape(value) and wrong_stage(bits, value) is None


def wrong_row(rows):
    """Return the index of the first row that is no mask or depends on rows ahead, else None."""
    earlier = []
    for at, row in enumerate(rows):
        if not is_place(len(rows), row):
            return at
        rest, taken = reduced(earlier, row)
        if rest == 0:
            return at
        earlier = widened(earlier, rest, taken)
    return None


def has_mapping_shape(value):
    """Return whether any value is a tuple of a list of 1 to 60 items and a further item."""
    if not isinstance(value, tuple) or len(value) != 2:
        return False
    return isinstance(value[0], list) and 1 <= len(value[0]) <= MOST_BITS


def wrong_part(value):
    """Return the index of the first wrong row of a tuple of rows and an offset, else None.

    It is the number of the rows if just the offset is wrong.
    """
    rows, offset = value
    wrong = wrong_row(rows)
    if wrong is None and not is_place(len(rows), offset):
        return len(rows)
    return wrong


def check_bits(bits):
    if not is_between(bits, 1, MOST_BITS):
        raise InvalidBits("bits must be an integer from 1 to 60")


def check_mapping(mapping):
    if not has_mapping_shape(mapping):
        raise InvalidMapping(None)
    wrong = wrong_part(mapping)
    if wrong is not None:
        raise InvalidMapping(wrong)


def check_place(bits, place):
    if not is_place(bits, place):
        raise InvalidPlace("no place of so many bits")


def check_masks(bits, masks):
    if not isinstance(masks, list) or len(masks) > MOST_MASKS:
        raise InvalidMasks(None)
    wrong = first_not_between(masks, 0, (1 << bits) - 1)
    if wrong is not None:
        raise InvalidMasks(wrong)


def check_values(masks, values):
    if not isinstance(values, list) or len(values) != len(masks):
        raise InvalidValues(None)
    wrong = first_not_between(values, 0, 1)
    if wrong is not None:
        raise InvalidValues(wrong)


def check_run(bits, run):
    if not has_run_shape(run):
        raise InvalidRun(None)
    wrong = wrong_stage(bits, run)
    if wrong is not None:
        raise InvalidRun(wrong)


def check_order(bits, order):
    if not is_order(bits, order):
        raise InvalidOrder("no order of so many bits")


def check_own_order(order):
    """Check an order ahead of which nothing tells the number of bits."""
    if not isinstance(order, list) or not 1 <= len(order) <= MOST_BITS:
        raise InvalidOrder("no list of 1 to 60 bits")
    check_order(len(order), order)


def check_ways(bits, ways):
    if not isinstance(ways, list) or len(ways) > MOST_WAYS:
        raise InvalidWays(None)
    for at, way in enumerate(ways):
        if not is_way(bits, way):
            raise InvalidWays(at)


def check_integer(number):
    if not is_integer_value(number):
        raise InvalidNumber("no integer")


def check_number(number, low, high):
    if not is_between(number, low, high):
        raise InvalidNumber("no integer of this range")


def check_index(index):
    """Check an index that may still be too great."""
    if not is_integer_value(index) or index < 0:
        raise InvalidNumber("no integer from 0 on")


def check_below(index, count):
    if index >= count:
        raise InvalidNumber("the index is too great")


def check_at_most(bits, limit):
    if bits > limit:
        raise TooLarge(limit)
