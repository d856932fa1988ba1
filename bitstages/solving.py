"""Solutions: places that are odd for some masks and even for others.

The values of the masks are kept as a choice of those whose value is 1.
"""

from bitstages.sums import eliminated, odd_for_free, parity


def contradiction(masks, odd):
    """Return a choice of masks that shows that nothing is odd for just the odd ones, else None."""
    _, dependent = eliminated(masks)
    for choice in dependent:
        if parity(choice & odd):
            return choice
    return None


def solved(bits, masks, odd):
    """Return the tuple of the least solution and the list of the steps, None without solutions.

    The highest bit of each step is in no other step and not in the least
    solution, as each pivot is the lowest bit of its row. So the solutions, in
    ascending sequence, are the least one with the steps of 0, 1, 2 ...
    """
    if contradiction(masks, odd) is not None:
        return None
    rows, _ = eliminated(masks)
    least = 0
    pivots = 0
    for pivot, _, choice in rows:
        pivots = pivots | pivot
        if parity(choice & odd):
            least = least | pivot
    steps = [odd_for_free(rows, 1 << bit) for bit in range(bits) if not pivots >> bit & 1]
    return least, steps


def count_solved(found):
    """Return the number of solutions of what `solved` returned."""
    if found is None:
        return 0
    _, steps = found
    return 1 << len(steps)


def nth_solved(found, index):
    """Return the solution with an index, ascending, of what `solved` returned."""
    place, steps = found
    for at, step in enumerate(steps):
        if index >> at & 1:
            place = place ^ step
    return place


def index_solved(found, place):
    """Return the index of a place that is a solution of what `solved` returned."""
    _, steps = found
    index = 0
    for at, step in enumerate(steps):
        if place >> step.bit_length() - 1 & 1:
            index = index | 1 << at
    return index


def is_solved(masks, odd, place):
    """Return whether a place is odd for just the odd ones of the masks."""
    return all([parity(place & mask) == odd >> at & 1 for at, mask in enumerate(masks)])
