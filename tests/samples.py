"""For each function of the interface good arguments, and wrong ones with their errors."""

from bitstages import console, counts, crowds, errors, fewest, halls, led, mappings, masks, oneruns, orders, seen, stages
from bitstages import texts, tworuns
from tests import support

UNITS = [2 ** bit for bit in range(60)]
NO_INTEGERS = [None, True, False, "", "1", "abc", (), (1,), [], [1], [[1]], {}, {"a": 1}, errors.StageError("text"),
               halls.Hall(1)]
NO_LISTS = [None, True, False, 0, 5, -1, support.HUGE, "", "01", "abc", (), (0,), (0, 1), (0, 1, 2), {}, {"a": 1},
            errors.InvalidMapping(1), halls.LineHall([0, 1]), console.Console()]
FAR = [10 ** 79, -10 ** 79, support.HUGE, -support.HUGE]


def all_with(error, values, index="none"):
    return [(value, error, index) for value in values]


def wrong_bits():
    return all_with(errors.InvalidBits, NO_INTEGERS + FAR + [0, -1, 61, 62, -3])


def wrong_places(bits):
    return all_with(errors.InvalidPlace, NO_INTEGERS + FAR + [-1, 2 ** bits, 2 ** bits + 1, -2 ** bits])


def wrong_numbers(*numbers):
    return all_with(errors.InvalidNumber, NO_INTEGERS + list(numbers))


def wrong_masks(bits):
    top = 2 ** bits
    longs = [[0] * 101, [top] * 101, [None] * 101, list(range(2)) * 60, [0] * 2400]
    found = all_with(errors.InvalidMasks, NO_LISTS + longs, None)
    items = [True, False, None, -1, top, support.HUGE, "1", (1,), [1], {}, {"a": 1}, errors.StageError("text")]
    for item in items:
        found += [([item], errors.InvalidMasks, 0), ([0, item], errors.InvalidMasks, 1),
                  ([1, 1, item, 0, None], errors.InvalidMasks, 2), ([0] * 99 + [item], errors.InvalidMasks, 99)]
    return found + [([top, -1], errors.InvalidMasks, 0), ([top - 1, 0, -1, top], errors.InvalidMasks, 2)]


def wrong_values_of_two():
    longs = [[], [0], [1], [0, 0, 0], [2, 2, 2], [None], [0] * 101, [[0, 0]]]
    found = all_with(errors.InvalidValues, NO_LISTS + longs, None)
    for item in [True, False, None, -1, 2, support.HUGE, "1", (1,), [1], {}, errors.StageError("text")]:
        found += [([item, 0], errors.InvalidValues, 0), ([1, item], errors.InvalidValues, 1),
                  ([item, item], errors.InvalidValues, 0)]
    return found


def wrong_mappings():
    none = NO_LISTS + [[], [0], [[1], 0], ([],), ([1],), ([1], 0, 0), ([1, 2], 0, 0), ([1, 2], [0], 0), ((1, 2), 0),
                       ([], 0), ([], None), ([0] * 61, 0), (UNITS + [2 ** 60], 0), (None, 0), ("12", 0), ({}, 0),
                       (5, 0), (True, 0), (0, [1]), ({"a": 1}, 0), ([0] * 2400, 0)]
    found = all_with(errors.InvalidMapping, none, None)
    told = [(([0], 0), 0), (([2], 0), 0), (([-1], 0), 0), (([0], None), 0), (([1, 0], 0), 1), (([1, 1], 0), 1),
            (([1, 4], 0), 1), (([4, 1], 0), 0), (([3, 3], 9), 1), (([3, 1, 2], 0), 2), (([3, 5, 6], 0), 2),
            (([1, 2, 8], 0), 2), (([1, 2, 0], 0), 2), (([0, 0, 0], 0), 0), (([1, 1, None], 0), 1), (([1, None, 1], 0), 1),
            (([None, 1, 1], None), 0), (([1, 2, 3, 99], 0), 2), (([1, 2, 99, 3], 0), 2), (([8, 4, 2, 14], 0), 3),
            ((UNITS[:59] + [6], 0), 59), ((UNITS[:59] + [2 ** 60], 0), 59), ((UNITS[:58] + [2 ** 58 - 1, None], 0), 58),
            ((UNITS[:59] + [2 ** 59 - 1], 0), 59), ((UNITS, 2 ** 60), 60), ((UNITS, -1), 60), ((UNITS, None), 60),
            (([1], 2), 1), (([1], True), 1), (([3, 6, 4], 8), 3), (([1, 2], []), 2), (([1, 1], -1), 1)]
    for item in [True, False, None, -1, 4, support.HUGE, "1", (1,), [1], {}, errors.StageError("text")]:
        told += [(([item, 1], 0), 0), (([2, item], 0), 1), (([2, 1], item), 2), (([item, item], item), 0)]
    return found + [(value, errors.InvalidMapping, index) for value, index in told]


def wrong_orders(bits):
    """Wrong ones where the number of bits is told ahead, at least two."""
    lists = [[], [0] * bits, [1] * bits, list(range(bits - 1)), list(range(bits + 1)), list(range(1, bits + 1)),
             list(range(61)), list(range(bits)) + [0], list(range(-1, bits - 1)), [list(range(bits))],
             list(range(bits - 1)) + [support.HUGE], [False, True] + list(range(2, bits)), [0, True] + list(range(2, bits))]
    for item in [True, False, None, "0", (0,), [0], {}, errors.StageError("text")]:
        lists += [[item] * bits, list(range(bits - 1)) + [item], [item] + list(range(1, bits))]
    return all_with(errors.InvalidOrder, NO_LISTS + [tuple(range(bits))] + lists)


def wrong_own_orders():
    """Wrong ones whatever the number of bits is."""
    lists = [[], [1], [2], [-1], [0, 0], [1, 1], [1, 2], [0, 2], [0, 1, 3], [2, 2, 0], [0, 1, 2, 1], [support.HUGE],
             [False], [True], [False, True], [0, True], [False, 1], [[0]], [[0, 1]], [(0,)], [None], ["0"], ["0", "1"],
             [0, None], [None, 0], [{}], [errors.StageError("text")], list(range(61)), list(range(60)) + [0],
             list(range(59)) + [60], list(range(1, 61)), list(range(59)) + [0], [0] * 2400, list(range(400))]
    return all_with(errors.InvalidOrder, NO_LISTS + [(1, 0)] + lists)


def wrong_stages_of_three():
    """Values that are no stages of three bits."""
    found = [None, True, False, 0, 1, support.HUGE, "", "0:2:0", "020", [], [0, 2, 0], [(0, 2, 0)], {}, {"a": 1}, (), (0,),
             (0, 2), (0, 2, 0, 0), ((0, 2, 0),), ((0, 2, 0), 0, 0), errors.InvalidRun(1)]
    for bit in (-1, 3, 4, -3, support.HUGE, -support.HUGE, None, True, False, "0", "", [0], (0,), {}):
        found += [(bit, 0, 0), (bit, 4, 1)]
    for mask in (-1, -2, 1, 3, 7, 8, 10, support.HUGE, -support.HUGE, None, True, False, "2", [2], (2,), {}):
        found += [(0, mask, 0), (0, mask, 1)]
    for flip in (-1, 2, 3, support.HUGE, -support.HUGE, None, True, False, "0", "1", [0], (1,), {}):
        found += [(0, 0, flip), (2, 3, flip)]
    return found + [(1, 2, 0), (1, 3, 0), (2, 4, 1), (2, 7, 0), (0, 1, 2), (3, 8, 2), (None, None, None)]


def wrong_runs_of_three():
    good = (0, 2, 1)
    longs = [[good] * 401, [good] * 2400 + [None], [None] * 401, [0] * 2400]
    found = all_with(errors.InvalidRun, NO_LISTS + longs + [good, (good,), (good, good)], None)
    for item in wrong_stages_of_three():
        found += [([item], errors.InvalidRun, 0), ([good, item, item], errors.InvalidRun, 1),
                  ([good] * 399 + [item], errors.InvalidRun, 399)]
    return found


def wrong_ways(bits):
    top = 2 ** bits
    longs = [[(0, 0)] * 101, [(top, 0)] * 101, [None] * 101, [0] * 2400, [(0, 0)] * 800]
    found = all_with(errors.InvalidWays, NO_LISTS + longs + [((0, 0),), ((0, 0), (1, 1))], None)
    items = [None, True, False, 0, 1, -1, top, support.HUGE, "", "01", "0 0", [], [0, 0], [(0, 0)], {}, {"0": 0}, (), (0,),
             (0, 0, 0), ((0, 0),), ((0, 0), (0, 0)), (0, [0]), ((0,), 0), errors.InvalidWays(0)]
    for wrong in (-1, top, top + 1, -top, support.HUGE, -support.HUGE, None, True, False, "0", "", (), [0], {}):
        items += [(wrong, 0), (0, wrong), (wrong, wrong), (top - 1, wrong)]
    good = (top - 1, 0)
    for item in items:
        found += [([item], errors.InvalidWays, 0), ([good, item, item], errors.InvalidWays, 1),
                  ([good] * 99 + [item], errors.InvalidWays, 99)]
    return found


def any_value():
    return ("value", [0], [])


def bits_and_masks():
    return [("bits", 3, wrong_bits()), ("masks", [3, 5], wrong_masks(3))]


def a_system():
    return bits_and_masks() + [("values", [1, 0], wrong_values_of_two())]


def calls():
    """Tuples of a function and its parameters: the name, a good value, the wrong ones with error and index."""
    return first_calls() + later_calls() + calls_of_fewest() + calls_of_seen() + calls_of_led() + calls_of_texts() + calls_of_halls()


def first_calls():
    mask = ("mask", 6, wrong_places(3))
    place = ("place", 6, wrong_places(3))
    index = ("index", 1, wrong_numbers(-1, -10 ** 79, 2, 3, 10 ** 79, support.HUGE))
    mapping = ("mapping", ([3, 6, 4], 5), wrong_mappings())
    swap = ("mapping", ([2, 1], 0), wrong_mappings())
    times = ("times", 5, wrong_numbers(10 ** 30 + 1, -10 ** 30 - 1, *FAR))
    return [
        (masks.rank, bits_and_masks()),
        (masks.sum_of, bits_and_masks() + [mask]),
        (masks.witness, bits_and_masks() + [mask]),
        (masks.witness, bits_and_masks() + [("mask", 7, wrong_places(3))]),
        (masks.dependency, bits_and_masks()),
        (masks.dependency, [("bits", 3, wrong_bits()), ("masks", [3, 5, 3], wrong_masks(3))]),
        (masks.shows_sum, bits_and_masks() + [mask, any_value()]),
        (masks.shows_witness, bits_and_masks() + [mask, any_value()]),
        (masks.shows_dependency, bits_and_masks() + [any_value()]),
        (masks.solution_count, a_system()),
        (masks.nth_solution, a_system() + [index]),
        (masks.solution_index, a_system() + [place]),
        (masks.conflict, a_system()),
        (masks.conflict, [("bits", 60, wrong_bits()), ("masks", [3, 3], wrong_masks(60)),
                          ("values", [1, 0], wrong_values_of_two())]),
        (masks.shows_conflict, a_system() + [any_value()]),
        (mappings.is_mapping, [("value", ([3, 6, 4], 5), [])]),
        (mappings.end_of, [mapping, place]),
        (mappings.begin_of, [mapping, place]),
        (mappings.then, [mapping, ("other_mapping", ([1, 2, 5], 2), wrong_mappings())]),
        (mappings.inverse, [mapping]),
        (mappings.power, [mapping, times]),
        (mappings.bit_move, [("order", [1, 0, 2], wrong_own_orders()), ("offset", 5, wrong_places(3))]),
        (mappings.bit_move, [("order", [0], []), ("offset", 1, wrong_places(1))]),
        (mappings.bit_move, [("order", list(range(60)), []), ("offset", 7, wrong_places(60))]),
        (mappings.is_bit_move, [mapping]),
        (mappings.reversal, [("bits", 3, wrong_bits())]),
        (mappings.rotation, [("bits", 3, wrong_bits()), ("number", 4, wrong_numbers())]),
        (mappings.prefix, [("bits", 3, wrong_bits())]),
        (mappings.renamed, [mapping, ("order", [1, 2, 0], wrong_orders(3))]),
        (mappings.changed_bits, [mapping]),
        (mappings.kept_count, [mapping]),
        (mappings.nth_kept, [swap, index]),
    ]


def knot_along_both():
    return [("mapping", ([7, 3, 5], 2), wrong_mappings()), ("order", [2, 0, 1], wrong_orders(3)),
            ("other_order", [1, 0, 2], wrong_orders(3))]


def calls_of_fewest():
    knot = ("mapping", ([7, 3, 5], 2), wrong_mappings())
    swap = ("mapping", ([2, 1, 4], 5), wrong_mappings())
    serving = ("mask", 1, wrong_places(3))
    barred = ("mask", 4, wrong_places(3))
    return [
        (tworuns.two_runs, knot_along_both()),
        (tworuns.shows_two_runs, knot_along_both() + [("value", ([(0, 0, 0)], [[1], 2]), [])]),
        (fewest.stage_bounds, [knot]),
        (fewest.fewest_stages, [knot]),
        (fewest.shortest_run, [knot]),
        (fewest.shortest_run, [("mapping", (UNITS[::-1], 7), [])]),
        (fewest.serves, [swap, serving]),
        (fewest.serving_sequence, [swap, serving]),
        (fewest.serving_sequence, [swap, barred]),
        (fewest.barring_sets, [swap, barred]),
        (fewest.barring_sets, [swap, serving]),
        (fewest.shows_serving, [swap, serving, ("value", [1, 2], [])]),
        (fewest.shows_barring, [swap, barred, ("value", [0, [1]], [])]),
        (fewest.best_twice, [swap]),
        (counts.mapping_count, [("bits", 3, wrong_bits())]),
        (counts.always_count, [("bits", 3, wrong_bits())]),
        (counts.share_of, [("bits", 3, wrong_bits())]),
    ]


def bits_and_ways():
    return [("bits", 3, wrong_bits()), ("ways", [(1, 2), (5, 7), (1, 2)], wrong_ways(3))]


def clashing():
    return [("bits", 3, wrong_bits()), ("ways", [(1, 2), (5, 7), (5, 6)], wrong_ways(3))]


def calls_of_seen():
    gray = ("mapping", ([3, 6, 4], 5), wrong_mappings())
    place = ("place", 6, wrong_places(3))
    seen_place = ("place", 5, wrong_places(3))
    end = ("end", 3, wrong_places(3))
    return [
        (seen.agrees, [gray, bits_and_ways()[1]]),
        (seen.some_mapping, bits_and_ways()),
        (seen.some_mapping, clashing()),
        (seen.some_mapping, [("bits", 3, wrong_bits()), ("ways", [], wrong_ways(3))]),
        (seen.clash, bits_and_ways()),
        (seen.clash, clashing()),
        (seen.shows_clash, clashing() + [("value", [1, 2], [])]),
        (seen.agreeing_count, bits_and_ways()),
        (seen.sure_end, bits_and_ways() + [place]),
        (seen.sure_end, bits_and_ways() + [seen_place]),
        (seen.can_end, bits_and_ways() + [place, end]),
        (seen.ends_needed, bits_and_ways()),
    ]


def order_and_ways():
    return [("order", [1, 2, 0], wrong_own_orders()), ("ways", [(1, 2), (5, 7), (1, 2)], wrong_ways(3))]


def blocking():
    return [("order", [1, 2, 0], wrong_own_orders()), ("ways", [(1, 2), (5, 7), (3, 4)], wrong_ways(3))]


def calls_of_led():
    place = ("place", 6, wrong_places(3))
    index = ("index", 5, wrong_numbers(-1, 10 ** 79, support.HUGE, -support.HUGE, 16, 17))
    return [
        (led.some_led, order_and_ways()),
        (led.some_led, blocking()),
        (led.some_led, [("order", [1, 0], wrong_own_orders()), ("ways", [], wrong_ways(2))]),
        (led.blocked, order_and_ways()),
        (led.blocked, blocking()),
        (led.shows_blocked, blocking() + [("value", (0, [0, 1]), [])]),
        (led.led_count, order_and_ways()),
        (led.nth_led, order_and_ways() + [index]),
        (led.led_end, order_and_ways() + [place]),
        (led.led_end, order_and_ways() + [("place", 5, wrong_places(3))]),
        (led.first_open, order_and_ways() + [place]),
        (led.can_lead, order_and_ways() + [place, ("end", 3, wrong_places(3))]),
    ]


def wrong_texts(*pairs):
    no_strings = [value for value in support.odd_values() if not isinstance(value, str)]
    return all_with(errors.InvalidText, no_strings, None) + [(text, errors.InvalidText, word) for text, word in pairs]


def wrong_runs_of_sixty():
    good = (59, 0, 1)
    found = all_with(errors.InvalidRun, NO_LISTS + [[good] * 401, (good,)], None)
    for item in [(60, 0, 0), (0, 1, 0), (1, 2 ** 60, 0), (0, 0, 2), None, [0, 0, 0], halls.Hall(1)]:
        found += [([item], errors.InvalidRun, 0), ([good] * 7 + [item, item], errors.InvalidRun, 7)]
    return found


def calls_of_texts():
    run_texts = wrong_texts((" ", 0), ("1", 0), ("0:1:0", 0), ("0:0:0 ", 1), ("0:0:0 x", 1), ("0:0:0 3:0:0", 1))
    return [
        (texts.format_run, [("run", [(59, 1, 0), (0, 2 ** 59, 1)], wrong_runs_of_sixty())]),
        (texts.format_mapping, [("mapping", ([3, 6, 4], 5), wrong_mappings())]),
        (texts.parse_run, [("bits", 3, wrong_bits()), ("text", "1:1:0 0:4:1", run_texts)]),
        (texts.parse_mapping, [("text", "3,6,4 5", wrong_texts(("", 0), ("1", 1), ("1,1 0", 0), ("1 2", 1), ("1 0 0", 2)))]),
    ]


def a_hall(bits):
    return halls.Hall(bits).described()


def a_line_hall(order):
    return halls.LineHall(order).order


def a_budget_hall(bits, most):
    return halls.BudgetHall(bits, most).described()


def a_line_budget_hall(order, most):
    return halls.LineBudgetHall(order, most).described()


def a_command(command):
    """The answer of a new console, behind some commands."""
    fresh = console.Console()
    fresh.execute("bits 3")
    fresh.execute("run 0:6:1 2:1:0")
    return fresh.execute(command)


def some_hall():
    hall = halls.Hall(3)
    hall.run([(0, 6, 1), (2, 1, 0)])
    return hall


def calls_of_halls():
    hall, busy = some_hall(), some_hall()
    line = halls.LineHall([1, 0, 2])
    stage_parts = [("bit", 1, all_with(errors.InvalidStage, NO_INTEGERS + FAR + [-1, 3, 0, 2])),
                   ("mask", 5, all_with(errors.InvalidStage, NO_INTEGERS + FAR + [-1, 2, 7, 8])),
                   ("flip", 1, all_with(errors.InvalidStage, NO_INTEGERS + FAR + [-1, 2]))]
    unlike = [(([1], 0), errors.UnlikeBits, "none"), (([2, 1], 3), errors.UnlikeBits, "none"), ((UNITS, 5), errors.UnlikeBits, "none")]
    mapping = ("mapping", ([3, 6, 4], 5), wrong_mappings() + unlike)
    most = ("most", 7, wrong_numbers(-1, -10 ** 79, -support.HUGE))
    bits, order = ("bits", 3, wrong_bits()), ("order", [1, 2, 0], wrong_own_orders())
    commands = all_with(errors.InvalidCommand, support.odd_values() + ["bits", "state 1", "undo undo", "run 1", "where x"])
    return [
        (a_hall, [bits]),
        (a_line_hall, [order]),
        (a_budget_hall, [bits, most]),
        (a_line_budget_hall, [order, most]),
        (busy.stage, stage_parts),
        (busy.run, [("run", [(1, 1, 0), (0, 4, 1)], wrong_runs_of_three())]),
        (line.run, [("run", [], wrong_runs_of_three())]),
        (hall.where, [("place", 6, wrong_places(3))]),
        (hall.whence, [("place", 6, wrong_places(3))]),
        (hall.left_for, [mapping]),
        (hall.fewest_left, [mapping]),
        (a_command, [("command", "left 3 6 4 5", commands)]),
        (a_command, [("command", "state", commands)]),
    ]


def bits_and_run():
    return [("bits", 3, wrong_bits()), ("run", [(1, 1, 0), (0, 4, 1), (1, 0, 0)], wrong_runs_of_three())]


def gray_along(order):
    return [("mapping", ([3, 6, 4], 5), wrong_mappings()), ("order", order, wrong_orders(3))]


def knot_along(order):
    return [("mapping", ([7, 3, 5], 2), wrong_mappings()), ("order", order, wrong_orders(3))]


def swap_stages():
    return [("mapping", ([2, 1], 0), wrong_mappings()), ("order", [0, 1], wrong_orders(2)),
            ("number", 1, wrong_numbers(-1, 3, 4, *FAR))]


def later_calls():
    knot = ("mapping", ([7, 3, 5], 2), wrong_mappings())
    gray = ("mapping", ([3, 6, 4], 5), wrong_mappings())
    swap = ("mapping", ([2, 1], 3), wrong_mappings())
    own_order = ("order", [1, 0, 2], wrong_own_orders())
    along = ("run", [(1, 5, 1), (0, 4, 0), (2, 3, 1)], wrong_runs_of_three())
    at_two = ("index", 1, wrong_numbers(-1, 2, 3, *FAR))
    return [
        (stages.is_stage, [("bits", 3, wrong_bits()), ("value", (0, 2, 1), [])]),
        (stages.is_run, [("bits", 3, wrong_bits()), ("value", [(0, 2, 1), (1, 0, 0)], [])]),
        (stages.run_mapping, bits_and_run()),
        (stages.turned_run, bits_and_run()),
        (stages.places_on, bits_and_run() + [("place", 6, wrong_places(3))]),
        (stages.busy_count, bits_and_run()),
        (stages.is_along, [own_order, along]),
        (stages.shows_run, [gray, ("value", [(0, 2, 1), (1, 0, 0)], [])]),
        (oneruns.goes, gray_along([1, 2, 0])),
        (oneruns.one_run, gray_along([1, 2, 0])),
        (oneruns.meeting, knot_along([0, 1, 2])),
        (oneruns.meeting, knot_along([1, 2, 0])),
        (oneruns.shows_meeting, knot_along([0, 1, 2]) + [("value", (2, 0, 3), [])]),
        (oneruns.first_crowded, knot_along([0, 1, 2])),
        (oneruns.run_count, [("bits", 3, wrong_bits())]),
        (oneruns.nth_run, [own_order, ("index", 77, wrong_numbers(-1, 512, 513, *FAR))]),
        (oneruns.run_index, [own_order, along]),
        (crowds.crowd, swap_stages() + [("place", 0, wrong_places(2))]),
        (crowds.nth_in_crowd, swap_stages() + [("place", 0, wrong_places(2)), at_two]),
        (crowds.used_count, swap_stages()),
        (crowds.used_count, knot_along([0, 1, 2]) + [("number", 0, wrong_numbers(-1, 4, 5, *FAR))]),
        (crowds.greatest_crowd, knot_along([0, 1, 2])),
        (crowds.calmest_order, [knot]),
        (orders.goes_always, [gray]),
        (orders.row_sequence, [gray]),
        (orders.fault_of, [knot]),
        (orders.failing_order, [knot]),
        (orders.shows_sequence, [gray, ("value", [2, 1, 0], [])]),
        (orders.shows_fault, [knot, ("value", [0, 1], [])]),
        (orders.order_count, [knot]),
        (orders.nth_order, [knot, at_two]),
        (orders.stuck_sets, [swap]),
        (orders.shows_stuck, [swap, ("value", [0], [])]),
    ]
