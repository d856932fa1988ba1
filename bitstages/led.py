"""Runs along a known order of which some ends were seen.

Each way tells where its value is ahead of each stage, so each stage is told by
itself. A stage is packed into one place: its mask, one bit higher, and its flip
as the lowest bit. It turns the bit of the values at those places that, packed
likewise with a lowest bit 1 and without the bit of the stage, are odd for it.
"""

from bitstages.checks import check_at_most, check_below, check_index, check_own_order, check_place, check_ways
from bitstages.checks import is_between, is_index_list
from bitstages.errors import Impossible
from bitstages.solving import contradiction, count_solved, nth_solved, solved
from bitstages.sums import choice_of, eliminated, indices_of, parity, reduced, sum_chosen

MOST_COUNTED = 50
MOST_NUMBERED = 16


def some_led(order, ways):
    """Return a run along the order that agrees with ways, None if there is none."""
    _check_order_and_ways(order, ways)
    if _block_of(order, ways) is not None:
        return None
    return [_unpacked(bit, nth_solved(found, 0)) for bit, found in zip(order, _packed_stages(order, ways))]


def blocked(order, ways):
    """Return a block, None if some run along the order agrees with ways."""
    _check_order_and_ways(order, ways)
    return _block_of(order, ways)


def shows_blocked(order, ways, value):
    """Return whether any value is a block."""
    _check_order_and_ways(order, ways)
    if not isinstance(value, tuple) or len(value) != 2:
        return False
    number, indices = value
    if not is_between(number, 0, len(order) - 1) or not is_index_list(indices, len(ways)):
        return False
    masks, odd = _told_of(order, ways, number)
    choice = choice_of(indices)
    # As each packed place has the lowest bit, the number of the ways is even.
    return sum_chosen(masks, choice) == 0 and parity(choice & odd) == 1


def led_count(order, ways):
    """Return how many runs along the order agree with ways."""
    _check_order_and_ways(order, ways)
    check_at_most(len(order), MOST_COUNTED)
    return _count_of(_packed_stages(order, ways))


def nth_led(order, ways, index):
    """Return the run along the order with an index, ascending, of those that agree with ways."""
    _check_order_and_ways(order, ways)
    check_index(index)
    check_at_most(len(order), MOST_NUMBERED)
    stages = _packed_stages(order, ways)
    check_below(index, _count_of(stages))
    run = []
    left = index
    for bit, found in reversed(list(zip(order, stages))):
        count = count_solved(found)
        run.append(_unpacked(bit, nth_solved(found, left % count)))
        left = left // count
    return run[::-1]


def led_end(order, ways, place):
    """Return the end to which all runs that agree lead a place, None if there are several."""
    end, number = _led_on(order, ways, place)
    if number is not None:
        return None
    return end


def first_open(order, ways, place):
    """Return the number of the first stage that turns the value of a place in some runs alone, else None."""
    _, number = _led_on(order, ways, place)
    return number


def can_lead(order, ways, place, end):
    """Return whether some run that agrees leads a place to an end."""
    _check_order_and_ways(order, ways)
    check_place(len(order), place)
    check_place(len(order), end)
    _check_possible(order, ways)
    return _block_of(order, ways + [(place, end)]) is None


def _check_order_and_ways(order, ways):
    check_own_order(order)
    check_ways(len(order), ways)


def _check_possible(order, ways):
    if _block_of(order, ways) is not None:
        raise Impossible("no run along the order agrees with the ways")


def _packed(bit, place):
    return (place & ~(1 << bit)) << 1 | 1


def _unpacked(bit, packed):
    return bit, packed >> 1, packed & 1


def _told_of(order, ways, number):
    """Return the packed places of the ways ahead of a stage, and the choice of those whose bit it turns."""
    bit = order[number]
    done = choice_of(order[:number])
    masks = [_packed(bit, place & ~done | end & done) for place, end in ways]
    return masks, choice_of([at for at, (place, end) in enumerate(ways) if (place ^ end) >> bit & 1])


def _block_of(order, ways):
    for number in range(len(order)):
        masks, odd = _told_of(order, ways, number)
        choice = contradiction(masks, odd)
        if choice is not None:
            return number, indices_of(choice)
    return None


def _packed_stages(order, ways):
    """Return for each stage the solutions, as `solved` returns them: the packed stages that agree."""
    stages = []
    for number, bit in enumerate(order):
        masks, odd = _told_of(order, ways, number)
        # The last mask is that of the bit that the stage must not have.
        stages.append(solved(len(order) + 1, masks + [2 << bit], odd))
    return stages


def _count_of(stages):
    count = 1
    for found in stages:
        count = count * count_solved(found)
    return count


def _led_on(order, ways, place):
    """Return where all runs that agree lead a place, and at which stage they part, None if they do not."""
    _check_order_and_ways(order, ways)
    check_place(len(order), place)
    _check_possible(order, ways)
    now = place
    for number, bit in enumerate(order):
        masks, odd = _told_of(order, ways, number)
        rows, _ = eliminated(masks)
        rest, choice = reduced(rows, _packed(bit, now))
        if rest != 0:
            return now, number
        now = now ^ parity(choice & odd) << bit
    return now, None
