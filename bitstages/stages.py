"""Stages and runs: what they are, what they move, and which mapping they make."""

from bitstages.checks import check_bits, check_mapping, check_own_order, check_place, check_run
from bitstages.checks import is_run_for, is_stage_for
from bitstages.running import busy_in, is_along_order, made_by, place_behind


def is_stage(bits, value):
    """Return whether any value is a stage."""
    check_bits(bits)
    return is_stage_for(bits, value)


def is_run(bits, value):
    """Return whether any value is a run of at most 400 stages."""
    check_bits(bits)
    return is_run_for(bits, value)


def run_mapping(bits, run):
    """Return the mapping that a run makes."""
    _check_bits_and_run(bits, run)
    return made_by(bits, run)


def turned_run(bits, run):
    """Return the run with the same stages in the reverse sequence."""
    _check_bits_and_run(bits, run)
    return run[::-1]


def places_on(bits, run, place):
    """Return the places at which the value of a place is at first and behind each stage."""
    _check_bits_and_run(bits, run)
    check_place(bits, place)
    places = [place]
    for stage in run:
        places.append(place_behind(stage, places[-1]))
    return places


def busy_count(bits, run):
    """Return how many stages of a run are not idle."""
    _check_bits_and_run(bits, run)
    return busy_in(run)


def is_along(order, run):
    """Return whether a run is along an order."""
    check_own_order(order)
    check_run(len(order), run)
    return is_along_order(order, run)


def shows_run(mapping, value):
    """Return whether any value is a run of at most 400 stages that makes a mapping."""
    check_mapping(mapping)
    bits = len(mapping[0])
    return is_run_for(bits, value) and made_by(bits, value) == mapping


def _check_bits_and_run(bits, run):
    check_bits(bits)
    check_run(bits, run)
