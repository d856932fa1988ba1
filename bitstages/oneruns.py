"""One run along an order: the mappings it makes, meetings of values, and the numbering of runs."""

from bitstages.affine import end_by
from bitstages.checks import check_at_most, check_below, check_bits, check_index, check_mapping, check_order
from bitstages.checks import check_own_order, check_run, is_between, is_place
from bitstages.errors import InvalidRun
from bitstages.running import found_along, is_along_order
from bitstages.sums import choice_of

MOST_COUNTED = 50
MOST_NUMBERED = 16


def goes(mapping, order):
    """Return whether a run along an order makes a mapping."""
    return _meeting_of(mapping, order) is None


def one_run(mapping, order):
    """Return the run along an order that makes a mapping, None if there is none."""
    _check_mapping_and_order(mapping, order)
    run, _ = found_along(mapping, order)
    return run


def meeting(mapping, order):
    """Return a meeting, None if the mapping goes in the order."""
    return _meeting_of(mapping, order)


def shows_meeting(mapping, order, value):
    """Return whether any value is a meeting."""
    _check_mapping_and_order(mapping, order)
    bits = len(order)
    if not isinstance(value, tuple) or len(value) != 3:
        return False
    number, place, other = value
    if not is_between(number, 1, bits) or not is_place(bits, place) or not is_place(bits, other):
        return False
    done = choice_of(order[:number])
    unlike_ends = end_by(mapping, place) ^ end_by(mapping, other)
    return place != other and (place ^ other) & ~done == 0 and unlike_ends & done == 0


def first_crowded(mapping, order):
    """Return the least number of a meeting, None if there is none."""
    found = _meeting_of(mapping, order)
    if found is None:
        return None
    return found[0]


def run_count(bits):
    """Return the number of the runs along an order."""
    check_bits(bits)
    check_at_most(bits, MOST_COUNTED)
    return _count_of_runs(bits)


def nth_run(order, index):
    """Return the run along an order with an index, ascending."""
    check_own_order(order)
    check_index(index)
    bits = len(order)
    check_at_most(bits, MOST_NUMBERED)
    check_below(index, _count_of_runs(bits))
    digits = [index >> bits * later & (1 << bits) - 1 for later in reversed(range(bits))]
    return [_nth_stage(bit, digit) for bit, digit in zip(order, digits)]


def run_index(order, run):
    """Return the index of a run along an order."""
    check_own_order(order)
    bits = len(order)
    check_run(bits, run)
    if not is_along_order(order, run):
        raise InvalidRun(None)
    check_at_most(bits, MOST_NUMBERED)
    index = 0
    for stage in run:
        index = index << bits | _stage_index(stage)
    return index


def _check_mapping_and_order(mapping, order):
    check_mapping(mapping)
    check_order(len(mapping[0]), order)


def _meeting_of(mapping, order):
    _check_mapping_and_order(mapping, order)
    _, found = found_along(mapping, order)
    return found


def _count_of_runs(bits):
    # A stage has one of 2 ** (bits - 1) masks and one of two flips.
    return 1 << bits * bits


def _nth_stage(bit, index):
    """Return the stage at a bit with an index, ascending: the mask without this bit, then the flip."""
    packed = index >> 1
    low = packed & (1 << bit) - 1
    high = packed >> bit << bit + 1
    return bit, high | low, index & 1


def _stage_index(stage):
    bit, mask, flip = stage
    low = mask & (1 << bit) - 1
    high = mask >> bit + 1 << bit
    return (high | low) << 1 | flip
