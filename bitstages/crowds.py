"""Crowds: how many values would be at a place behind some of the stages along an order."""

from bitstages.checks import check_at_most, check_below, check_index, check_mapping, check_number, check_order
from bitstages.checks import check_place
from bitstages.solving import count_solved, nth_solved, solved
from bitstages.subsets import lost_by_mask, lost_within, with_one_more
from bitstages.sums import choice_of

MOST_COMPARED = 10


def crowd(mapping, order, number, place):
    """Return how many values would be at a place behind a number of stages."""
    _check_stages_done(mapping, order, number)
    check_place(len(order), place)
    return count_solved(_crowd_at(mapping, order, number, place))


def nth_in_crowd(mapping, order, number, place, index):
    """Return the first place of the value with an index, ascending, of those at a place."""
    _check_stages_done(mapping, order, number)
    check_place(len(order), place)
    check_index(index)
    found = _crowd_at(mapping, order, number, place)
    check_below(index, count_solved(found))
    return nth_solved(found, index)


def used_count(mapping, order, number):
    """Return at how many places at least one value would be."""
    _check_stages_done(mapping, order, number)
    done = choice_of(order[:number])
    return 1 << len(order) - lost_within(mapping[0], done, done)


def greatest_crowd(mapping, order):
    """Return the greatest crowd, and the least number of stages behind which some place has it."""
    check_mapping(mapping)
    rows, _ = mapping
    check_order(len(rows), order)
    masks = [choice_of(order[:number]) for number in range(len(order) + 1)]
    lost = [lost_within(rows, mask, mask) for mask in masks]
    most = max(lost)
    return 1 << most, lost.index(most)


def calmest_order(mapping):
    """Return the least greatest crowd of all orders, and the first order that has it."""
    check_mapping(mapping)
    bits = len(mapping[0])
    check_at_most(bits, MOST_COMPARED)
    worst = _least_worst(mapping[0])
    order = []
    done = 0
    for _ in range(bits):
        larger = [mask for mask in with_one_more(done, bits) if worst[mask] <= worst[0]][0]
        order.append((larger ^ done).bit_length() - 1)
        done = larger
    return 1 << worst[0], order


def _check_stages_done(mapping, order, number):
    check_mapping(mapping)
    bits = len(mapping[0])
    check_order(bits, order)
    check_number(number, 0, bits)


def _crowd_at(mapping, order, number, place):
    """Solve for the first places of the values at a place behind a number of stages."""
    rows, offset = mapping
    done = choice_of(order[:number])
    moved = [row if done >> bit & 1 else 1 << bit for bit, row in enumerate(rows)]
    return solved(len(rows), moved, place ^ offset & done)


def _least_worst(rows):
    """Return for each mask the most rows lost from its bits on, by the order of the others with the least such."""
    worst = lost_by_mask(rows)
    for mask in reversed(range((1 << len(rows)) - 1)):
        ahead = min([worst[larger] for larger in with_one_more(mask, len(rows))])
        worst[mask] = max(worst[mask], ahead)
    return worst
