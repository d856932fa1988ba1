"""Exclusive ors of masks.

A choice of some items of a list is kept as one integer: it has bit k if item k
is chosen. So two choices are joined by one exclusive or.
"""


def parity(value):
    """Return 1 if an odd number of the bits of a value below 2 ** 128 are 1, otherwise 0."""
    folded = value
    for shift in (64, 32, 16, 8, 4, 2, 1):
        folded = folded ^ folded >> shift
    return folded & 1


def indices_of(choice):
    """Return the ascending list of the indices in a choice."""
    return [at for at in range(choice.bit_length()) if choice >> at & 1]


def choice_of(indices):
    """Return the choice of unlike indices."""
    choice = 0
    for at in indices:
        choice = choice | 1 << at
    return choice


def sum_chosen(masks, choice):
    """Return the exclusive or of the masks in a choice."""
    total = 0
    for at, mask in enumerate(masks):
        if choice >> at & 1:
            total = total ^ mask
    return total


def reduced(rows, mask):
    """Return what is left of a mask by reduced rows, and the choice that was taken off.

    A row is a tuple (pivot, mask, choice). Its pivot is the lowest bit of its
    mask, which no other row has: so one pass in any sequence is enough.
    """
    rest = mask
    taken = 0
    for pivot, row, choice in rows:
        if rest & pivot:
            rest = rest ^ row
            taken = taken ^ choice
    return rest, taken


def widened(rows, rest, choice):
    """Return the reduced rows with one more, whose mask is a rest that they leave, not 0."""
    pivot = rest & -rest
    cleared = []
    for low, row, taken in rows:
        if row & pivot:
            cleared.append((low, row ^ rest, taken ^ choice))
        else:
            cleared.append((low, row, taken))
    return cleared + [(pivot, rest, choice)]


def eliminated(masks):
    """Return the reduced rows of masks, and the choices whose exclusive or is 0.

    There is one such choice for each mask that depends on those ahead of it;
    every other such choice is an exclusive or of these.
    """
    rows = []
    dependent = []
    for at, mask in enumerate(masks):
        rest, taken = reduced(rows, mask)
        choice = taken ^ 1 << at
        if rest == 0:
            dependent.append(choice)
        else:
            rows = widened(rows, rest, choice)
    return rows, dependent


def odd_for_free(rows, free):
    """Return the place with one bit that is no pivot, and pivots so that it is even for all rows."""
    place = free
    for pivot, row, _ in rows:
        if row & free:
            place = place | pivot
    return place
