"""Mappings that were checked: their ends, and how they are joined and reverted."""

from bitstages.sums import eliminated, parity, sum_chosen


def units(bits):
    """Return the list of the unit rows."""
    return [1 << bit for bit in range(bits)]


def times_rows(rows, place):
    """Return the place that has bit k if a place is odd for rows[k]."""
    total = 0
    for bit, row in enumerate(rows):
        total = total | parity(place & row) << bit
    return total


def end_by(mapping, place):
    """Return the end of a place."""
    rows, offset = mapping
    return times_rows(rows, place) ^ offset


def joined(first, second):
    """Return the mapping that does the first one and then the second one."""
    rows, offset = first
    later_rows, _ = second
    return [sum_chosen(rows, later) for later in later_rows], end_by(second, offset)


def reverted(mapping):
    """Return the mapping that leads back."""
    rows, offset = mapping
    back = [0] * len(rows)
    # As the rows are independent, each reduced row is a unit row.
    for pivot, _, choice in eliminated(rows)[0]:
        back[pivot.bit_length() - 1] = choice
    return back, times_rows(back, offset)


def repeated(mapping, times):
    """Return the mapping that does a mapping so many times, from 0 on."""
    made = (units(len(mapping[0])), 0)
    step = mapping
    left = times
    while left > 0:
        if left & 1:
            made = joined(made, step)
        step = joined(step, step)
        left = left >> 1
    return made
