"""Orders in which a mapping goes, and what shows that it goes in none or not in all of them."""

from bitstages.checks import check_at_most, check_below, check_index, check_mapping, first_not_between, is_order
from bitstages.subsets import lost_by_mask, with_one_more
from bitstages.sums import choice_of, indices_of

MOST_COUNTED = 10
MOST_STUCK = 1024


def goes_always(mapping):
    """Return whether a mapping goes in every order."""
    check_mapping(mapping)
    return _sequence_of(mapping[0]) is not None


def row_sequence(mapping):
    """Return all bits so that each row has its bit and further ones from ahead only, None with a fault."""
    check_mapping(mapping)
    return _sequence_of(mapping[0])


def fault_of(mapping):
    """Return a fault, None if there is none."""
    check_mapping(mapping)
    return _fault_in(mapping[0])


def failing_order(mapping):
    """Return an order in which a mapping does not go, None if there is none."""
    check_mapping(mapping)
    rows, _ = mapping
    fault = _fault_in(rows)
    if fault is None:
        return None
    # The rows of a shortest ring, cut down to it, have two bits each: so their exclusive or is 0.
    return fault + [bit for bit in range(len(rows)) if bit not in fault]


def shows_sequence(mapping, value):
    """Return whether any value is a list of all bits as row_sequence returns it."""
    check_mapping(mapping)
    rows, _ = mapping
    if not is_order(len(rows), value):
        return False
    ahead = 0
    for bit in value:
        if not _is_next(rows, ahead, bit):
            return False
        ahead = ahead | 1 << bit
    return True


def shows_fault(mapping, value):
    """Return whether any value is a fault."""
    check_mapping(mapping)
    rows, _ = mapping
    if not isinstance(value, list) or not 1 <= len(value) <= len(rows):
        return False
    if first_not_between(value, 0, len(rows) - 1) is not None or len(set(value)) < len(value):
        return False
    if len(value) == 1:
        return not rows[value[0]] >> value[0] & 1
    return all([rows[bit] >> later & 1 for bit, later in zip(value, value[1:] + value[:1])])


def order_count(mapping):
    """Return the number of the orders in which a mapping goes."""
    check_mapping(mapping)
    check_at_most(len(mapping[0]), MOST_COUNTED)
    return _ways_on(mapping[0])[0]


def nth_order(mapping, index):
    """Return the order with an index, ascending, of those in which a mapping goes."""
    check_mapping(mapping)
    check_index(index)
    bits = len(mapping[0])
    check_at_most(bits, MOST_COUNTED)
    ways = _ways_on(mapping[0])
    check_below(index, ways[0])
    order = []
    done = 0
    left = index
    for _ in range(bits):
        for larger in with_one_more(done, bits):
            if left < ways[larger]:
                break
            left -= ways[larger]
        order.append((larger ^ done).bit_length() - 1)
        done = larger
    return order


def stuck_sets(mapping):
    """Return a closed list, None if the mapping goes in some order."""
    check_mapping(mapping)
    bits = len(mapping[0])
    check_at_most(bits, MOST_COUNTED)
    lost = lost_by_mask(mapping[0])
    reached = [mask == 0 for mask in range(1 << bits)]
    for mask in range(1 << bits):
        if reached[mask]:
            for larger in with_one_more(mask, bits):
                reached[larger] = lost[larger] == 0
    if reached[-1]:
        return None
    return [mask for mask in range(1 << bits) if reached[mask]]


def shows_stuck(mapping, value):
    """Return whether any value is a closed list."""
    check_mapping(mapping)
    bits = len(mapping[0])
    check_at_most(bits, MOST_COUNTED)
    whole = (1 << bits) - 1
    if not isinstance(value, list) or len(value) > MOST_STUCK or first_not_between(value, 0, whole) is not None:
        return False
    held = [False] * (1 << bits)
    for mask in value:
        held[mask] = True
    if not held[0] or held[whole]:
        return False
    lost = lost_by_mask(mapping[0])
    return all([held[larger] or lost[larger] > 0 for mask in value for larger in with_one_more(mask, bits)])


def _is_next(rows, ahead, bit):
    """Return whether the row of a bit that is not ahead has this bit, and further ones from ahead only."""
    return rows[bit] & ~ahead == 1 << bit


def _sequence_of(rows):
    sequence = []
    while len(sequence) < len(rows):
        ahead = choice_of(sequence)
        fitting = [bit for bit in range(len(rows)) if _is_next(rows, ahead, bit)]
        if len(fitting) == 0:
            return None
        sequence += fitting
    return sequence


def _fault_in(rows):
    """Return a bit that its row lacks, otherwise a shortest ring of bits, None if there is neither."""
    for bit, row in enumerate(rows):
        if not row >> bit & 1:
            return [bit]
    shortest = None
    for bit in range(len(rows)):
        ring = _ring_from(rows, bit)
        if ring is not None and (shortest is None or len(ring) < len(shortest)):
            shortest = ring
    return shortest


def _ring_from(rows, start):
    """Return a shortest ring of at least two bits that begins with a bit, None if there is none."""
    paths = [[start]]
    reached = 1 << start
    while len(paths) > 0:
        longer = []
        for path in paths:
            row = rows[path[-1]]
            if len(path) > 1 and row >> start & 1:
                return path
            longer += [path + [bit] for bit in indices_of(row & ~reached)]
            reached = reached | row
        paths = longer
    return None


def _ways_on(rows):
    """Return for each mask in how many sequences the other bits can follow its bits."""
    ways = [1 if lost == 0 else 0 for lost in lost_by_mask(rows)]
    for mask in reversed(range((1 << len(rows)) - 1)):
        if ways[mask] > 0:
            ways[mask] = sum([ways[larger] for larger in with_one_more(mask, len(rows))])
    return ways
