"""What several tests share: odd values, slow ways to work things out, samples."""

import copy
import itertools
import random

from bitstages import errors

HUGE = 10 ** 400 - 1


def nested(depth):
    value = [0]
    for _ in range(depth):
        value = [value]
    return value


def odd_values():
    """Values of all kinds that can be passed where any value is accepted."""
    return [
        None, True, False, 0, 1, 2, -1, 8, 2 ** 60, 10 ** 79, -10 ** 79, HUGE, -HUGE,
        "", "0", "1", "a", "[]", "[0, 1]", "x" * 5000,
        (), (0,), (0, 1), ((0,), 0), ([0, 1],), ([0, 1], [0]), (None, None), ([], 0), (0, []),
        [], [None], [True], [False], [0, True], [False, 1], [False, True], ["0"], [0, "1"], [[0]], [[0], [1]],
        [0, None], [(0,)], [{}], [-1], [0, -1], [-1, 0], [HUGE], [-HUGE, HUGE], [0, HUGE],
        [1, 0], [0, 0], [1, 1], [0, 1, 1], [0, 0, 1], [2, 1, 0], [0] * 2400, list(range(2400)), nested(5),
        {}, {"0": 0}, {"a": [1, {"b": None}]}, {"rows": [1], "offset": 0},
        errors.StageError("one"), errors.InvalidPlace("two"), errors.InvalidMapping(3), errors.Refused(None),
    ]


def outcome(call, *args, **named):
    """The tuple of the class of the error that a call raises and its index, "none" without one."""
    try:
        call(*args, **named)
    except errors.StageError as error:
        return type(error), getattr(error, "index", "none")
    return "no error"


def odd(place, mask):
    """Whether a place is odd for a mask."""
    return bin(place & mask).count("1") % 2 == 1


def exclusive_or(items):
    total = 0
    for item in items:
        total ^= item
    return total


def picked(masks, indices):
    """The exclusive or of the masks at some indices."""
    return exclusive_or([masks[at] for at in indices])


def subsets(count):
    """All ascending lists of integers from 0 to count - 1."""
    for size in range(count + 1):
        for chosen in itertools.combinations(range(count), size):
            yield list(chosen)


def is_index_list(value, count):
    """Whether any value is an ascending list of indices of so many items."""
    if type(value) is not list:
        return False
    if not all(type(at) is int and 0 <= at < count for at in value):
        return False
    return all(value[k] < value[k + 1] for k in range(len(value) - 1))


def near_lists(count):
    """Lists that are index lists of so many items, or nearly."""
    for size in range(count + 2):
        for items in itertools.product(range(-1, count + 1), repeat=size):
            yield list(items)


def slow_rank(masks):
    """The greatest number of independent masks, by their highest bits."""
    left = [mask for mask in masks if mask]
    found = 0
    while left:
        head = max(left)
        top = head.bit_length() - 1
        left = [mask ^ head if mask >> top & 1 else mask for mask in left]
        left = [mask for mask in left if mask]
        found += 1
    return found


def slow_count(bits, masks, values):
    """The number of solutions, by comparing ranks."""
    both = [mask << 1 | value for mask, value in zip(masks, values)]
    if slow_rank(both) != slow_rank(masks):
        return 0
    return 2 ** (bits - slow_rank(masks))


def slow_index(bits, masks, values, place):
    """The number of solutions that are less than a place, by the highest bit in which they differ."""
    total = 0
    for bit in range(bits):
        if place >> bit & 1:
            above = [2 ** high for high in range(bit, bits)]
            told = [place >> high & 1 if high > bit else 0 for high in range(bit, bits)]
            total += slow_count(bits, masks + above, values + told)
    return total


def slow_end(mapping, place):
    """The end of a place, bit by bit as it is defined."""
    rows, offset = mapping
    total = 0
    for bit, row in enumerate(rows):
        if odd(place, row) != (offset >> bit & 1 == 1):
            total += 2 ** bit
    return total


def slow_independent(rows):
    return all(picked(rows, chosen) != 0 for chosen in subsets(len(rows)) if chosen)


def slow_is_mapping(value):
    """Whether any value is a mapping, for few rows."""
    if type(value) is not tuple or len(value) != 2 or type(value[0]) is not list:
        return False
    rows, offset = value
    if not 1 <= len(rows) <= 60:
        return False
    top = 2 ** len(rows)
    if not all(type(item) is int and 0 <= item < top for item in rows + [offset]):
        return False
    return slow_rank(rows) == len(rows)


def all_mappings(bits):
    for rows in itertools.product(range(2 ** bits), repeat=bits):
        if slow_independent(list(rows)):
            for offset in range(2 ** bits):
                yield list(rows), offset


def some_mapping(bits, chance):
    """A mapping by chance: the identity, with rows added to each other and exchanged."""
    rows = [2 ** bit for bit in range(bits)]
    for _ in range(bits * 8 if bits > 1 else 0):
        one, other = chance.sample(range(bits), 2)
        rows[one] ^= rows[other]
        if chance.random() < 0.3:
            rows[one], rows[other] = rows[other], rows[one]
    return rows, chance.randrange(2 ** bits)


def some_places(bits, chance, many):
    return [chance.randrange(2 ** bits) for _ in range(many)] + [0, 2 ** bits - 1]


def mask_lists(most):
    """All pairs of few bits and a list of masks, of at most so many masks, and some longer ones."""
    for bits in (1, 2):
        for size in range(most + 1):
            for masks in itertools.product(range(2 ** bits), repeat=size):
                yield bits, list(masks)
    for size in range(3):
        for masks in itertools.product(range(8), repeat=size):
            yield 3, list(masks)
    chance = random.Random(11)
    for _ in range(80):
        bits = chance.choice((3, 4, 5))
        yield bits, [chance.randrange(2 ** bits) for _ in range(chance.randrange(3, 7))]


def wide_lists():
    """Pairs of 60 bits and a long list of masks."""
    chance = random.Random(12)
    units = [2 ** bit for bit in range(60)]
    yield 60, []
    yield 60, units
    yield 60, units + units[:40]
    yield 60, [2 ** 60 - 1] * 100
    yield 60, [0] * 100
    yield 60, [chance.randrange(2 ** 60) for _ in range(100)]
    yield 60, [chance.randrange(2 ** 60) for _ in range(30)]
    few = [chance.randrange(2 ** 60) for _ in range(9)]
    yield 60, [exclusive_or(chance.sample(few, chance.randrange(10))) for _ in range(100)]
    yield 60, [3 << bit for bit in range(59)]
    yield 60, [3 << bit for bit in range(59)] + [2 ** 59 + 1]


def spoil(value):
    """Change each list within a value."""
    if isinstance(value, (list, tuple)):
        for item in value:
            spoil(item)
    if isinstance(value, list):
        value.append("spoilt")
        value[0] = "spoilt"


def told(args):
    """Arguments as a text that tells 1 from True."""
    return repr(args)


def copied(args):
    return copy.deepcopy(args)
