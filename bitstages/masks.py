"""Sums and dependencies of masks, and the places that are odd for some of them."""

from bitstages.checks import check_below, check_bits, check_index, check_masks, check_place, check_values
from bitstages.checks import is_index_list, is_place
from bitstages.solving import contradiction, count_solved, index_solved, is_solved, nth_solved, solved
from bitstages.sums import choice_of, eliminated, indices_of, odd_for_free, parity, reduced, sum_chosen


def rank(bits, masks):
    """Return the greatest number of the masks that are independent."""
    _check_bits_and_masks(bits, masks)
    rows, _ = eliminated(masks)
    return len(rows)


def sum_of(bits, masks, mask):
    """Return the indices of some masks whose exclusive or is the mask, None if there are none."""
    _check_target(bits, masks, mask)
    rows, _ = eliminated(masks)
    rest, taken = reduced(rows, mask)
    if rest != 0:
        return None
    return indices_of(taken)


def witness(bits, masks, mask):
    """Return a place that is even for all masks and odd for the mask, None if there is a sum."""
    _check_target(bits, masks, mask)
    rows, _ = eliminated(masks)
    rest, _ = reduced(rows, mask)
    if rest == 0:
        return None
    return odd_for_free(rows, rest & -rest)


def dependency(bits, masks):
    """Return the indices of some masks, at least one, whose exclusive or is 0, else None."""
    _check_bits_and_masks(bits, masks)
    _, dependent = eliminated(masks)
    if len(dependent) == 0:
        return None
    return indices_of(dependent[0])


def shows_sum(bits, masks, mask, value):
    """Return whether any value is a list of indices of masks whose exclusive or is the mask."""
    _check_target(bits, masks, mask)
    return is_index_list(value, len(masks)) and sum_chosen(masks, choice_of(value)) == mask


def shows_witness(bits, masks, mask, value):
    """Return whether any value is a place that is even for all masks and odd for the mask."""
    _check_target(bits, masks, mask)
    if not is_place(bits, value):
        return False
    return parity(value & mask) == 1 and is_solved(masks, 0, value)


def shows_dependency(bits, masks, value):
    """Return whether any value is a list of indices, at least one, of masks whose exclusive or is 0."""
    _check_bits_and_masks(bits, masks)
    if not is_index_list(value, len(masks)) or len(value) == 0:
        return False
    return sum_chosen(masks, choice_of(value)) == 0


def solution_count(bits, masks, values):
    """Return the number of the places that are odd for just the masks with the value 1."""
    _check_system(bits, masks, values)
    return count_solved(solved(bits, masks, _odd_ones(values)))


def nth_solution(bits, masks, values, index):
    """Return the solution with an index, ascending."""
    _check_system(bits, masks, values)
    check_index(index)
    found = solved(bits, masks, _odd_ones(values))
    check_below(index, count_solved(found))
    return nth_solved(found, index)


def solution_index(bits, masks, values, place):
    """Return the index of a solution, None if the place is none."""
    _check_system(bits, masks, values)
    check_place(bits, place)
    odd = _odd_ones(values)
    if not is_solved(masks, odd, place):
        return None
    return index_solved(solved(bits, masks, odd), place)


def conflict(bits, masks, values):
    """Return the indices of some masks that show that there are no solutions, None if there are."""
    _check_system(bits, masks, values)
    choice = contradiction(masks, _odd_ones(values))
    if choice is None:
        return None
    return indices_of(choice)


def shows_conflict(bits, masks, values, value):
    """Return whether any value is a list of indices that shows that there are no solutions."""
    _check_system(bits, masks, values)
    if not is_index_list(value, len(masks)):
        return False
    choice = choice_of(value)
    return sum_chosen(masks, choice) == 0 and parity(choice & _odd_ones(values)) == 1


def _odd_ones(values):
    return choice_of([at for at, value in enumerate(values) if value == 1])


def _check_bits_and_masks(bits, masks):
    check_bits(bits)
    check_masks(bits, masks)


def _check_target(bits, masks, mask):
    _check_bits_and_masks(bits, masks)
    check_place(bits, mask)


def _check_system(bits, masks, values):
    _check_bits_and_masks(bits, masks)
    check_values(masks, values)
