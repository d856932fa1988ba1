"""Splits: a mapping made by two others, of which the second one goes in an order."""

from bitstages.affine import joined, reverted, units


def split_along(mapping, order):
    """Return two mappings that make a mapping one behind the other; the second one goes in the order.

    The first one only adds bits to some that are later in the order. So it goes
    in every order, and it keeps the first bit of this one. Where a bit must be
    added to a later one, and several would do, it is added to the last one.
    """
    rows, _ = mapping
    first = units(len(rows))
    # The rows that the second mapping will have, less those of the bits done so far.
    left = list(rows)
    for at, bit in enumerate(order):
        if not left[bit] >> bit & 1:
            helper = [later for later in order if left[bit] >> later & 1][-1]
            first[helper] = first[helper] ^ first[bit]
            left = [row ^ (row >> helper & 1) << bit for row in left]
        for later in order[at + 1:]:
            if left[later] >> bit & 1:
                left[later] = left[later] ^ left[bit]
    return (first, 0), joined(reverted((first, 0)), mapping)
