"""Stages and runs that were checked: what they move, and the run along an order."""

from bitstages.affine import units
from bitstages.sums import choice_of, parity, sum_chosen


def place_behind(stage, place):
    """Return the place to which a stage moves the value of a place."""
    bit, mask, flip = stage
    return place ^ (parity(place & mask) ^ flip) << bit


def made_by(bits, run):
    """Return the mapping that a run makes."""
    rows = list(units(bits))
    offset = 0
    for stage in run:
        bit, mask, _ = stage
        rows[bit] = rows[bit] ^ sum_chosen(rows, mask)
        offset = place_behind(stage, offset)
    return rows, offset


def busy_in(run):
    """Return how many stages of a run are not idle."""
    return len([bit for bit, mask, flip in run if mask != 0 or flip != 0])


def is_along_order(order, run):
    """Return whether a run has one stage for each bit of an order, in this order."""
    return [stage[0] for stage in run] == order


def found_along(mapping, order):
    """Return the run along an order that makes a mapping, and None; or None, and a first meeting."""
    rows, offset = mapping
    # Item k tells of which bits of a place behind the stages so far bit k of the first place is made.
    sources = units(len(rows))
    place = 0
    run = []
    for bit in order:
        choice = sum_chosen(sources, rows[bit])
        if not choice >> bit & 1:
            return None, (len(run) + 1, 0, _apart_before(sources, bit))
        mask = choice ^ 1 << bit
        stage = (bit, mask, parity(place & mask) ^ offset >> bit & 1)
        run.append(stage)
        place = place_behind(stage, place)
        sources = [source ^ mask if source >> bit & 1 else source for source in sources]
    return run, None


def _apart_before(sources, bit):
    """Return how the first places of two values differ that are now at places unlike in one bit alone."""
    return choice_of([at for at, source in enumerate(sources) if source >> bit & 1])
