"""What several tests share: odd values, slow ways to work things out, samples."""

import copy
import itertools
import random

from bitstages import console, errors, halls

HUGE = 10 ** 400 - 1


def nested(depth):
    value = [0]
    for _ in range(depth):
        value = [value]
    return value


def odd_values():
    """Values of all kinds that can be passed where any value is accepted."""
    return [
        None, True, False, 0, 1, 2, -1, 8, 2 ** 60, 10 ** 79, -10 ** 79, HUGE, -HUGE,
        "", "0", "1", "a", "[]", "[0, 1]", "x" * 5000,
        (), (0,), (0, 1), ((0,), 0), ([0, 1],), ([0, 1], [0]), (None, None), ([], 0), (0, []),
        [], [None], [True], [False], [0, True], [False, 1], [False, True], ["0"], [0, "1"], [[0]], [[0], [1]],
        [0, None], [(0,)], [{}], [-1], [0, -1], [-1, 0], [HUGE], [-HUGE, HUGE], [0, HUGE],
        [1, 0], [0, 0], [1, 1], [0, 1, 1], [0, 0, 1], [2, 1, 0], [0] * 2400, list(range(2400)), nested(5),
        {}, {"0": 0}, {"a": [1, {"b": None}]}, {"rows": [1], "offset": 0},
        errors.StageError("one"), errors.InvalidPlace("two"), errors.InvalidMapping(3), errors.Refused(None),
        halls.Hall(1), halls.LineHall([0, 1]), halls.BudgetHall(2, 0), halls.LineBudgetHall([0], 1), console.Console(),
        [halls.Hall(1)], (halls.Hall(1), 0), ([halls.Hall(2)], 0), {"hall": halls.Hall(2)}, [0, console.Console()],
    ]


def outcome(call, *args, **named):
    """The tuple of the class of the error that a call raises and its index or word, "none" without one."""
    try:
        call(*args, **named)
    except errors.StageError as error:
        return type(error), getattr(error, "index", getattr(error, "word", "none"))
    return "no error"


def limit_of(call, *args):
    """The limit of the TooLarge that a call raises, "none" without one."""
    try:
        call(*args)
    except errors.TooLarge as error:
        return error.limit
    return "none"


def odd(place, mask):
    """Whether a place is odd for a mask."""
    return bin(place & mask).count("1") % 2 == 1


def exclusive_or(items):
    total = 0
    for item in items:
        total ^= item
    return total


def picked(masks, indices):
    """The exclusive or of the masks at some indices."""
    return exclusive_or([masks[at] for at in indices])


def subsets(count):
    """All ascending lists of integers from 0 to count - 1."""
    for size in range(count + 1):
        for chosen in itertools.combinations(range(count), size):
            yield list(chosen)


def is_index_list(value, count):
    """Whether any value is an ascending list of indices of so many items."""
    if type(value) is not list:
        return False
    if not all(type(at) is int and 0 <= at < count for at in value):
        return False
    return all(value[k] < value[k + 1] for k in range(len(value) - 1))


def near_lists(count):
    """Lists that are index lists of so many items, or nearly."""
    for size in range(count + 2):
        for items in itertools.product(range(-1, count + 1), repeat=size):
            yield list(items)


def slow_rank(masks):
    """The greatest number of independent masks, by their highest bits."""
    left = [mask for mask in masks if mask]
    found = 0
    while left:
        head = max(left)
        top = head.bit_length() - 1
        left = [mask ^ head if mask >> top & 1 else mask for mask in left]
        left = [mask for mask in left if mask]
        found += 1
    return found


def slow_count(bits, masks, values):
    """The number of solutions, by comparing ranks."""
    both = [mask << 1 | value for mask, value in zip(masks, values)]
    if slow_rank(both) != slow_rank(masks):
        return 0
    return 2 ** (bits - slow_rank(masks))


def slow_index(bits, masks, values, place):
    """The number of solutions that are less than a place, by the highest bit in which they differ."""
    total = 0
    for bit in range(bits):
        if place >> bit & 1:
            above = [2 ** high for high in range(bit, bits)]
            told = [place >> high & 1 if high > bit else 0 for high in range(bit, bits)]
            total += slow_count(bits, masks + above, values + told)
    return total


def slow_end(mapping, place):
    """The end of a place, bit by bit as it is defined."""
    rows, offset = mapping
    total = 0
    for bit, row in enumerate(rows):
        if odd(place, row) != (offset >> bit & 1 == 1):
            total += 2 ** bit
    return total


def slow_independent(rows):
    return all(picked(rows, chosen) != 0 for chosen in subsets(len(rows)) if chosen)


def slow_is_mapping(value):
    """Whether any value is a mapping, for few rows."""
    if type(value) is not tuple or len(value) != 2 or type(value[0]) is not list:
        return False
    rows, offset = value
    if not 1 <= len(rows) <= 60:
        return False
    top = 2 ** len(rows)
    if not all(type(item) is int and 0 <= item < top for item in rows + [offset]):
        return False
    return slow_rank(rows) == len(rows)


def all_mappings(bits):
    for rows in itertools.product(range(2 ** bits), repeat=bits):
        if slow_independent(list(rows)):
            for offset in range(2 ** bits):
                yield list(rows), offset


def some_mapping(bits, chance):
    """A mapping by chance: the identity, with rows added to each other and exchanged."""
    rows = [2 ** bit for bit in range(bits)]
    for _ in range(bits * 8 if bits > 1 else 0):
        one, other = chance.sample(range(bits), 2)
        rows[one] ^= rows[other]
        if chance.random() < 0.3:
            rows[one], rows[other] = rows[other], rows[one]
    return rows, chance.randrange(2 ** bits)


def some_places(bits, chance, many):
    return [chance.randrange(2 ** bits) for _ in range(many)] + [0, 2 ** bits - 1]


def slow_is_stage(bits, value):
    """Whether any value is a stage."""
    if type(value) is not tuple or len(value) != 3 or {type(item) for item in value} != {int}:
        return False
    bit, mask, flip = value
    return 0 <= bit < bits and 0 <= mask < 2 ** bits and mask // 2 ** bit % 2 == 0 and flip in (0, 1)


def slow_move(stage, place):
    """Where a stage moves the value of a place, as it is defined."""
    bit, mask, flip = stage
    if odd(place, mask) == (flip == 0):
        return place ^ 2 ** bit
    return place


def slow_walk(run, place):
    """Where a run moves the value of a place."""
    for stage in run:
        place = slow_move(stage, place)
    return place


def stages_at(bits, bit):
    """All stages at a bit, ascending."""
    return [(bit, mask, flip) for mask in range(2 ** bits) if not mask >> bit & 1 for flip in (0, 1)]


def some_stage(bits, bit, chance):
    return bit, chance.randrange(2 ** bits) & ~(1 << bit), chance.randrange(2)


def some_run(bits, many, chance):
    return [some_stage(bits, chance.randrange(bits), chance) for _ in range(many)]


def some_run_along(order, chance):
    return [some_stage(len(order), bit, chance) for bit in order]


def slow_mapping(bits, run):
    """The mapping that a run makes, from where the values of 0 and of single bits come."""
    offset = slow_walk(run, 0)
    columns = [slow_walk(run, 2 ** bit) ^ offset for bit in range(bits)]
    rows = [sum((column >> bit & 1) << k for k, column in enumerate(columns)) for bit in range(bits)]
    return rows, offset


def place_between(mapping, order, number, place):
    """Where the value of a place would be behind a number of stages."""
    end = slow_end(mapping, place)
    for bit in order[:number]:
        place = place & ~(1 << bit) | end & 1 << bit
    return place


def slow_crowds(mapping, order, number):
    """The dict from each used place to the ascending list of the first places of the values there."""
    found = {}
    for place in range(2 ** len(order)):
        found.setdefault(place_between(mapping, order, number, place), []).append(place)
    return found


def slow_greatest(mapping, order):
    """The greatest crowd behind any number of stages, and the least such number."""
    sizes = [max(map(len, slow_crowds(mapping, order, number).values())) for number in range(len(order) + 1)]
    return max(sizes), sizes.index(max(sizes))


def slow_crowded(mapping, order):
    """The least number of stages behind which two values meet, None if there is none."""
    for number in range(1, len(order) + 1):
        if len(slow_crowds(mapping, order, number)) < 2 ** len(order):
            return number
    return None


def slow_goes(mapping, order):
    return slow_crowded(mapping, order) is None


def slow_fits(mapping, mask, further=0):
    """Whether the rows of the bits of a mask, cut down to these bits and further ones, are independent."""
    rows = [row & (mask | further) for bit, row in enumerate(mapping[0]) if mask >> bit & 1]
    return slow_rank(rows) == len(rows)


def slow_changed(mapping):
    """The ascending list of the changed bits."""
    rows, offset = mapping
    return [bit for bit in range(len(rows)) if (rows[bit], offset >> bit & 1) != (2 ** bit, 0)]


def orders_of(bits):
    return [list(order) for order in itertools.permutations(range(bits))]


def some_triangle(bits, chance, share=0.5):
    """A mapping that goes in every order, and a sequence of its bits that shows it."""
    sequence = chance.sample(range(bits), bits)
    rows, ahead = [0] * bits, 0
    for bit in sequence:
        few = sum(1 << at for at in range(bits) if chance.random() < share)
        rows[bit] = ahead & few | 1 << bit
        ahead |= 1 << bit
    return (rows, chance.randrange(2 ** bits)), sequence


def mask_lists(most):
    """All pairs of few bits and a list of masks, of at most so many masks, and some longer ones."""
    for bits in (1, 2):
        for size in range(most + 1):
            for masks in itertools.product(range(2 ** bits), repeat=size):
                yield bits, list(masks)
    for size in range(3):
        for masks in itertools.product(range(8), repeat=size):
            yield 3, list(masks)
    chance = random.Random(11)
    for _ in range(80):
        bits = chance.choice((3, 4, 5))
        yield bits, [chance.randrange(2 ** bits) for _ in range(chance.randrange(3, 7))]


def wide_lists():
    """Pairs of 60 bits and a long list of masks."""
    chance = random.Random(12)
    units = [2 ** bit for bit in range(60)]
    yield 60, []
    yield 60, units
    yield 60, units + units[:40]
    yield 60, [2 ** 60 - 1] * 100
    yield 60, [0] * 100
    yield 60, [chance.randrange(2 ** 60) for _ in range(100)]
    yield 60, [chance.randrange(2 ** 60) for _ in range(30)]
    few = [chance.randrange(2 ** 60) for _ in range(9)]
    yield 60, [exclusive_or(chance.sample(few, chance.randrange(10))) for _ in range(100)]
    yield 60, [3 << bit for bit in range(59)]
    yield 60, [3 << bit for bit in range(59)] + [2 ** 59 + 1]


def spoil(value):
    """Change each list within a value."""
    if isinstance(value, (list, tuple)):
        for item in value:
            spoil(item)
    if isinstance(value, list):
        value.append("spoilt")
        value[0] = "spoilt"


def told(args):
    """Arguments as a text that tells 1 from True."""
    return repr(args)


def copied(args):
    return copy.deepcopy(args)
