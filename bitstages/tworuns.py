"""Two runs, each along an order of its own, that make a mapping one behind the other."""

from bitstages.checks import check_mapping, check_order, is_run_for
from bitstages.running import found_along, is_along_order, made_by
from bitstages.splits import split_along


def two_runs(mapping, order, other_order):
    """Return a run along each order that make a mapping one behind the other.

    The stage of the first run at the first bit of the other order is idle.
    """
    _check_orders(mapping, order, other_order)
    first, second = split_along(mapping, other_order)
    run, _ = found_along(first, order)
    other_run, _ = found_along(second, other_order)
    return run, other_run


def shows_two_runs(mapping, order, other_order, value):
    """Return whether any value is a run along each order that make a mapping one behind the other."""
    _check_orders(mapping, order, other_order)
    if not isinstance(value, tuple) or len(value) != 2:
        return False
    run, other_run = value
    if not _is_run_along(order, run) or not _is_run_along(other_order, other_run):
        return False
    return made_by(len(order), run + other_run) == mapping


def _check_orders(mapping, order, other_order):
    check_mapping(mapping)
    bits = len(mapping[0])
    check_order(bits, order)
    check_order(bits, other_order)


def _is_run_along(order, value):
    return is_run_for(len(order), value) and is_along_order(order, value)
