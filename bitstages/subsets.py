"""The rows of some bits, cut down to some bits: they tell how crowded the places are.

Behind stages at some bits the values of 2 ** lost places are at each place
that is used, where lost is the number of the rows of these bits, cut down to
them, that depend on others.
"""

from bitstages.sums import eliminated, indices_of


def lost_within(rows, mask, kept):
    """Return how many of the rows of the bits of a mask, cut down to the bits kept, depend on others."""
    _, dependent = eliminated([rows[bit] & kept for bit in indices_of(mask)])
    return len(dependent)


def lost_by_mask(rows):
    """Return the list of how many rows of the bits of each mask, cut down to these, depend on others."""
    return [lost_within(rows, mask, mask) for mask in range(1 << len(rows))]


def with_one_more(mask, bits):
    """Return the list of the masks that have one further bit, this bit ascending."""
    return [mask | 1 << bit for bit in range(bits) if not mask >> bit & 1]
