"""The least number of stages that make a mapping, and the bits that are worth two stages.

Some bits have a stage at the beginning and one at the end: they are called
twice here. The other changed bits have one stage between: they are called once.
"""

from bitstages.affine import units
from bitstages.checks import check_at_most, check_mapping, check_place, is_between, is_integer_value
from bitstages.mappings import changed_bits, is_bit_move
from bitstages.running import found_along
from bitstages.splits import split_along
from bitstages.subsets import lost_within
from bitstages.sums import choice_of, indices_of

MOST_SEARCHED = 7
MOST_BARRING = 128


def stage_bounds(mapping):
    """Return two numbers between which the least number of stages lies."""
    changed = len(changed_bits(mapping))
    return changed, max(0, 2 * changed - 1)


def fewest_stages(mapping):
    """Return the least number of stages that make a mapping."""
    twice, sequence = _shortest_plan(mapping)
    return 2 * len(twice) + len(sequence)


def shortest_run(mapping):
    """Return a run with the least number of stages that makes a mapping."""
    twice, sequence = _shortest_plan(mapping)
    left_out = [bit for bit in range(len(mapping[0])) if bit not in twice and bit not in sequence]
    order = left_out + sequence + twice
    first, second = split_along(mapping, order)
    run, _ = found_along(first, order)
    other_run, _ = found_along(second, order)
    # The split adds to the bits twice alone, as each bit that lacks itself has one of those; so the rest is idle.
    return run[len(order) - len(twice):] + other_run[len(left_out):]


def serves(mapping, mask):
    """Return whether the bits of a mask serve."""
    return serving_sequence(mapping, mask) is not None


def serving_sequence(mapping, mask):
    """Return a sequence of the bits once that shows that the bits of a mask serve, None if they do not."""
    _check_mapping_and_mask(mapping, mask)
    return _sequence_of(mapping, mask)


def barring_sets(mapping, mask):
    """Return a barring list, None if the bits of a mask serve."""
    _check_mapping_and_mask(mapping, mask)
    once = _once_beside(mapping, mask)
    found = _sequences_in(mapping[0], mask, once)
    if once in found:
        return None
    return list(found)


def shows_serving(mapping, mask, value):
    """Return whether any value is a sequence that shows that the bits of a mask serve."""
    _check_mapping_and_mask(mapping, mask)
    if not isinstance(value, list) or not all([is_integer_value(item) for item in value]):
        return False
    if sorted(value) != indices_of(_once_beside(mapping, mask)):
        return False
    beginnings = [choice_of(value[:many]) for many in range(1, len(value) + 1)]
    return all([_fits(mapping[0], mask, beginning) for beginning in beginnings])


def shows_barring(mapping, mask, value):
    """Return whether any value is a barring list."""
    _check_mapping_and_mask(mapping, mask)
    once = _once_beside(mapping, mask)
    if not isinstance(value, list) or len(value) > MOST_BARRING:
        return False
    if not all([is_between(item, 0, once) and item & ~once == 0 for item in value]):
        return False
    if 0 not in value or once in value:
        return False
    larger = [item | 1 << bit for item in value for bit in indices_of(once & ~item)]
    return all([item in value or not _fits(mapping[0], mask, item) for item in larger])


def best_twice(mapping):
    """Return the least mask of those that serve with the least number of stages."""
    check_mapping(mapping)
    bits = len(mapping[0])
    check_at_most(bits, MOST_SEARCHED)
    changed = choice_of(changed_bits(mapping))
    for mask in sorted(list(range(1 << bits)), key=lambda twice: 2 * _many(twice) + _many(changed & ~twice)):
        if _sequence_of(mapping, mask) is not None:
            break
    return mask


def _check_mapping_and_mask(mapping, mask):
    check_mapping(mapping)
    bits = len(mapping[0])
    check_place(bits, mask)
    check_at_most(bits, MOST_SEARCHED)


def _shortest_plan(mapping):
    """Return the bits twice and the sequence of those once with the least number of stages."""
    if is_bit_move(mapping):
        return _plan_of_move(mapping)
    mask = best_twice(mapping)
    return indices_of(mask), _sequence_of(mapping, mask)


def _plan_of_move(mapping):
    """Return the plan with one bit of each ring twice, the others once, each behind the one it comes from."""
    rows, offset = mapping
    aims = [rows.index(unit) for unit in units(len(rows))]
    twice = []
    sequence = [at for at, aim in enumerate(aims) if aim == at and offset >> at & 1]
    for start, aim in enumerate(aims):
        if aim != start and start not in sequence:
            twice.append(start)
            bit = aim
            while bit != start:
                sequence.append(bit)
                bit = aims[bit]
    return twice, sequence


def _many(mask):
    return len(indices_of(mask))


def _once_beside(mapping, mask):
    """Return the mask of the changed bits that a mask lacks."""
    return choice_of(changed_bits(mapping)) & ~mask


def _sequence_of(mapping, mask):
    once = _once_beside(mapping, mask)
    return _sequences_in(mapping[0], mask, once).get(once)


def _sequences_in(rows, twice, once):
    """Return for each mask of bits once that can be reached bit by bit a sequence of its bits that does it."""
    found = {0: []}
    for mask in range(1, once + 1):
        last = [bit for bit in indices_of(mask) if mask ^ 1 << bit in found]
        if mask & ~once == 0 and len(last) > 0 and _fits(rows, twice, mask):
            found[mask] = found[mask ^ 1 << last[0]] + last[:1]
    return found


def _fits(rows, twice, mask):
    """Return whether the rows of the bits of a mask, cut down to these and the bits twice, are independent."""
    return lost_within(rows, mask, mask | twice) == 0
