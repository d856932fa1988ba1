"""Mappings of which some ends were seen: which ends are sure then, and which are possible.

With one further bit, which each place and each end has, ends become exclusive
ors: a mapping agrees with ways if each exclusive or of places leads to that of
their ends. So one does if the places and the ends depend on one another alike.
"""

from bitstages.affine import end_by, joined, reverted, times_rows, units
from bitstages.checks import check_at_most, check_bits, check_mapping, check_place, check_ways, is_index_list
from bitstages.counts import completion_count, mapping_count
from bitstages.errors import Impossible
from bitstages.sums import choice_of, eliminated, indices_of, reduced, sum_chosen

MOST_COUNTED = 50


def agrees(mapping, ways):
    """Return whether a mapping leads the place of each way to its end."""
    check_mapping(mapping)
    check_ways(len(mapping[0]), ways)
    return all([end_by(mapping, place) == end for place, end in ways])


def some_mapping(bits, ways):
    """Return a mapping that agrees with ways, None if there is none."""
    _check_bits_and_ways(bits, ways)
    if _clash_in(bits, ways) is not None:
        return None
    # Without ways the identity is made.
    first, first_end = (ways + [(0, 0)])[0]
    known, _ = eliminated([place ^ first for place, _ in ways])
    images = [sum_chosen([end ^ first_end for _, end in ways], choice) for _, _, choice in known]
    taken, _ = eliminated(images)
    sources = [step for _, step, _ in known] + _units_beside(bits, known)
    rows = _linear(sources, images + _units_beside(bits, taken))
    return rows, times_rows(rows, first) ^ first_end


def clash(bits, ways):
    """Return the indices of some ways that show that no mapping agrees, None if one does."""
    _check_bits_and_ways(bits, ways)
    choice = _clash_in(bits, ways)
    if choice is None:
        return None
    return indices_of(choice)


def shows_clash(bits, ways, value):
    """Return whether any value is a list of indices that shows that no mapping agrees."""
    _check_bits_and_ways(bits, ways)
    if not is_index_list(value, len(ways)) or len(value) & 1:
        return False
    choice = choice_of(value)
    places = sum_chosen([place for place, _ in ways], choice)
    ends = sum_chosen([end for _, end in ways], choice)
    return (places == 0) != (ends == 0)


def agreeing_count(bits, ways):
    """Return the number of the mappings that agree with ways."""
    _check_bits_and_ways(bits, ways)
    check_at_most(bits, MOST_COUNTED)
    if _clash_in(bits, ways) is not None:
        return 0
    known = _known_count(bits, ways)
    if known == 0:
        return mapping_count(bits)
    return completion_count(bits, known - 1)


def sure_end(bits, ways, place):
    """Return the end to which all mappings that agree lead a place, None if there is none."""
    _check_bits_and_ways(bits, ways)
    check_place(bits, place)
    _check_possible(bits, ways)
    rows, _ = eliminated(_places_of(bits, ways))
    rest, choice = reduced(rows, 1 << bits | place)
    if rest == 0:
        return sum_chosen([end for _, end in ways], choice)
    if bits == 1 and len(ways) > 0:
        # The other end of two is taken by the other place.
        return ways[0][1] ^ 1
    return None


def can_end(bits, ways, place, end):
    """Return whether some mapping that agrees leads a place to an end."""
    _check_bits_and_ways(bits, ways)
    check_place(bits, place)
    check_place(bits, end)
    _check_possible(bits, ways)
    return _clash_in(bits, ways + [(place, end)]) is None


def ends_needed(bits, ways):
    """Return the least number of further ways that make all ends sure, whatever they are."""
    _check_bits_and_ways(bits, ways)
    _check_possible(bits, ways)
    known = _known_count(bits, ways)
    if bits == 1:
        return 0 if known > 0 else 1
    return bits + 1 - known


def _check_bits_and_ways(bits, ways):
    check_bits(bits)
    check_ways(bits, ways)


def _check_possible(bits, ways):
    if _clash_in(bits, ways) is not None:
        raise Impossible("no mapping agrees with the ways")


def _places_of(bits, ways):
    return [1 << bits | place for place, _ in ways]


def _ends_of(bits, ways):
    return [1 << bits | end for _, end in ways]


def _known_count(bits, ways):
    """Return how many of the places, with the further bit, are independent."""
    rows, _ = eliminated(_places_of(bits, ways))
    return len(rows)


def _clash_in(bits, ways):
    """Return a choice of ways whose places depend on one another and whose ends do not, or the other way round."""
    places = _places_of(bits, ways)
    ends = _ends_of(bits, ways)
    for masks, others in ((places, ends), (ends, places)):
        _, dependent = eliminated(masks)
        for choice in dependent:
            if sum_chosen(others, choice) != 0:
                return choice
    return None


def _units_beside(bits, rows):
    """Return the unit rows that make reduced rows a basis."""
    pivots = choice_of([pivot.bit_length() - 1 for pivot, _, _ in rows])
    return [unit for unit in units(bits) if not unit & pivots]


def _linear(sources, aims):
    """Return the rows by which each source of a basis goes to its aim."""
    back = reverted((_turned(sources), 0))
    rows, _ = joined(back, (_turned(aims), 0))
    return rows


def _turned(columns):
    """Return the rows by which the place with just bit k goes to column k."""
    return [choice_of([at for at, column in enumerate(columns) if column >> bit & 1]) for bit in range(len(columns))]
