"""How many mappings there are, and how many of them go in one order or in every order."""

from math import comb, gcd

from bitstages.checks import check_at_most, check_bits
from bitstages.oneruns import run_count

MOST_COUNTED = 50


def mapping_count(bits):
    """Return the number of the mappings."""
    _check_countable(bits)
    return completion_count(bits, 0) << bits


def always_count(bits):
    """Return the number of the mappings that go in every order."""
    _check_countable(bits)
    # These are the mappings whose rows have their own bits and no ring of others.
    return _ringless_count(bits) << bits


def share_of(bits):
    """Return the numbers of the mappings that go in an order and of all, divided by their greatest divisor."""
    going = run_count(bits)
    every = mapping_count(bits)
    both = gcd(going, every)
    return going // both, every // both


def completion_count(bits, known):
    """Return the number of the sequences of masks that make so many independent ones a basis."""
    count = 1
    for many in range(known, bits):
        count = count * ((1 << bits) - (1 << many))
    return count


def _check_countable(bits):
    check_bits(bits)
    check_at_most(bits, MOST_COUNTED)


def _ringless_count(bits):
    """Return in how many ways each bit can have some other bits so that there is no ring.

    The bits that no other one has are at least one. With any so many of them
    chosen, they may have any others. As ways with more such bits are found
    several times, they are added and taken off in turn.
    """
    counts = [1]
    for size in range(1, bits + 1):
        total = 0
        for chosen in range(1, size + 1):
            part = comb(size, chosen) * counts[size - chosen] << chosen * (size - chosen)
            total = total + part if chosen & 1 else total - part
        counts.append(total)
    return counts[bits]
