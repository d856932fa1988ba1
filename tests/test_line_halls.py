"""Promise [32]: halls with an order, with a budget, and with both."""

import random
import unittest

from bitstages import errors
from bitstages.console import Console
from bitstages.halls import BudgetHall, Hall, LineBudgetHall, LineHall
from bitstages.mappings import prefix
from bitstages.oneruns import one_run
from bitstages.stages import run_mapping
from tests import samples, support


def raised(call, *args):
    """The error that a call raises as a text of its class and its field, "none" without one."""
    try:
        call(*args)
    except errors.OutOfTurn as error:
        return f"turn {error.bit}"
    except errors.Refused as error:
        return f"refused {error.count}"
    except errors.StageError as error:
        return type(error).__name__
    return "none"


class ExamplesTest(unittest.TestCase):

    def test_examples(self):
        self.assertEqual(raised(LineHall([0, 1]).stage, 1, 1, 0), "turn 0")
        self.assertEqual(raised(BudgetHall(2, 1).run, [(0, 0, 0), (0, 2, 0), (1, 0, 1)]), "refused 2")


class LineHallTest(unittest.TestCase):

    def test_several_rounds(self):
        chance = random.Random(321)
        for bits in (1, 2, 3, 5, 60):
            order = chance.sample(range(bits), bits)
            hall, log = LineHall(order), []
            self.assertEqual([hall.order, hall.bits, isinstance(hall, Hall)], [order, bits, True])
            for turn in range(min(3 * bits + 1, 130)):
                bit = order[turn % bits]
                for wrong in range(bits):
                    if wrong != bit and (bits < 9 or wrong % 9 == 0):
                        self.assertEqual(raised(hall.stage, wrong, 0, turn % 2), f"turn {bit}")
                        self.assertEqual(raised(hall.run, [(wrong, 0, 1)]), f"turn {bit}")
                stage = support.some_stage(bits, bit, chance) if turn % 3 else (bit, 0, 0)
                if turn % 2:
                    hall.run([stage])
                else:
                    hall.stage(*stage)
                log.append(stage)
                self.assertEqual([hall.log, len(hall)], [log, turn + 1])
            self.assertEqual(hall.mapping, run_mapping(bits, log))

    def test_runs_within(self):
        hall = LineHall([2, 0, 1])
        hall.run([(2, 1, 0), (0, 2, 0)])
        for run, told in (([(1, 0, 0), (2, 0, 0), (1, 0, 0)], "turn 0"), ([(0, 0, 0)], "turn 1"), ([(1, 1, 1), (1, 0, 0)], "turn 2"),
                          ([(1, 0, 0), (2, 0, 0), (0, 0, 0), (1, 0, 0), (0, 0, 0), (2, 0, 0)], "turn 2"),
                          ([(2, 0, 0), (1, 0, 0)], "turn 1")):
            self.assertEqual(raised(hall.run, run), told)
            self.assertEqual([hall.log, len(hall)], [[(2, 1, 0), (0, 2, 0)], 2])
        hall.run([(1, 0, 0), (2, 0, 0), (0, 0, 0), (1, 0, 0), (2, 3, 1)])
        self.assertEqual(raised(hall.stage, 1, 0, 0), "turn 0")
        self.assertEqual(len(hall), 7)
        # The calls that raised an error are none that undo reverts.
        hall.undo()
        hall.undo()
        self.assertEqual([hall.log, raised(hall.undo)], [[], "NothingToUndo"])

    def test_undo_turns_the_order_back(self):
        hall = LineHall([1, 0, 2])
        hall.stage(1, 0, 1)
        hall.run([(0, 0, 0), (2, 1, 0), (1, 4, 0)])
        self.assertEqual(raised(hall.stage, 1, 0, 0), "turn 0")
        hall.undo()
        self.assertEqual(raised(hall.stage, 1, 0, 0), "turn 0")
        self.assertEqual(raised(hall.stage, 2, 0, 0), "turn 0")
        hall.undo()
        self.assertEqual(raised(hall.stage, 0, 0, 0), "turn 1")
        hall.run([])
        self.assertEqual(raised(hall.stage, 0, 0, 0), "turn 1")
        hall.run([(1, 0, 0), (0, 0, 0)])
        self.assertEqual(raised(hall.stage, 0, 0, 0), "turn 2")

    def test_one_run_of_a_mapping(self):
        chance = random.Random(322)
        order = chance.sample(range(60), 60)
        hall = LineHall(order)
        hall.run(one_run(prefix(60), order))
        self.assertEqual([hall.mapping, hall.fewest_left(prefix(60))], [prefix(60), 0])

    def test_wrong_runs_first(self):
        hall = LineHall([1, 0])
        for run, told in (([(0, 0, 0), (0, 0, 2)], 1), ([(0, 0, 0), None], 1), ([(0, 1, 0)], 0), ([(1, 0, 0), (1, 0, 0), (2, 0, 0)], 2)):
            self.assertEqual(support.outcome(hall.run, run), (errors.InvalidRun, told))
        self.assertEqual(support.outcome(hall.run, [(0, 0, 0)] * 401), (errors.InvalidRun, None))
        self.assertEqual([raised(hall.stage, 0, 1, 0), raised(hall.stage, 0, 0, None), len(hall)], ["InvalidStage", "InvalidStage", 0])

    def test_constructor(self):
        for wrong, _, _ in samples.wrong_own_orders():
            self.assertEqual(raised(LineHall, wrong), "InvalidOrder")
        self.assertEqual(raised(LineHall, LineHall([0])), "InvalidOrder")
        self.assertEqual(LineHall(order=[1, 0]), LineHall([1, 0]))
        self.assertEqual(LineHall(list(range(60))).bits, 60)


class BudgetHallTest(unittest.TestCase):

    def test_counts(self):
        for most in range(5):
            hall = BudgetHall(2, most)
            self.assertEqual([hall.most, hall.bits, isinstance(hall, Hall)], [most, 2, True])
            for turn in range(most):
                hall.run([(0, 0, 0), (0, 2, turn % 2), (1, 0, 0)])
            for stage in ((0, 2, 0), (1, 0, 1), (0, 0, 1), (1, 1, 1)):
                self.assertEqual([raised(hall.stage, *stage), raised(hall.run, [stage])], [f"refused {most + 1}"] * 2)
                self.assertEqual(raised(hall.run, [(1, 0, 0), stage, stage]), f"refused {most + 1}")
            self.assertEqual(len(hall), 3 * most)
            # Idle ones can be done still.
            hall.stage(0, 0, 0)
            hall.run([(1, 0, 0)] * 30)
            self.assertEqual(len(hall), 3 * most + 31)

    def test_none_of_a_run_is_done(self):
        hall = BudgetHall(3, 4)
        hall.run([(0, 2, 0), (1, 0, 0), (2, 1, 0)])
        before = hall.log
        for run in ([(0, 2, 0)] * 3, [(0, 0, 1), (1, 0, 0), (2, 0, 1), (0, 0, 1), (1, 0, 1)], [(2, 3, 1)] * 400):
            self.assertEqual(raised(hall.run, run), "refused 5")
            self.assertEqual([hall.log, hall.mapping], [before, run_mapping(3, before)])
        hall.run([(0, 0, 1), (1, 0, 0), (2, 0, 1)])
        self.assertEqual(raised(hall.stage, 0, 0, 1), "refused 5")
        hall.undo()
        hall.undo()
        self.assertEqual(raised(hall.undo), "NothingToUndo")

    def test_reverted_ones_do_not_count(self):
        hall = BudgetHall(2, 2)
        for _ in range(60):
            hall.run([(0, 2, 0), (1, 1, 0)])
            self.assertEqual(raised(hall.stage, 0, 0, 1), "refused 3")
            hall.undo()
        hall.stage(0, 0, 1)
        hall.stage(0, 0, 1)
        hall.stage(0, 0, 0)
        self.assertEqual(raised(hall.stage, 0, 0, 1), "refused 3")
        hall.undo()
        self.assertEqual(raised(hall.stage, 0, 0, 1), "refused 3")
        hall.undo()
        self.assertEqual(raised(hall.stage, 0, 0, 1), "none")

    def test_huge_most(self):
        for most in (10 ** 79, 10 ** 80 - 1, support.HUGE):
            for hall in (BudgetHall(2, most), LineBudgetHall([1, 0], most)):
                hall.run([(1, 0, 1), (0, 2, 0)] * 200)
                self.assertEqual([hall.most, len(hall), hall.described()[-1]], [most, 400, f"most {most}"])
                self.assertEqual([hall == hall.twin(), hall.twin().most], [True, most])

    def test_wrong_runs_first(self):
        hall = BudgetHall(2, 0)
        for run, told in (([(0, 0, 1), (0, 0, 2)], 1), ([(0, 0, 1), None], 1), ([(0, 1, 0)], 0)):
            self.assertEqual(support.outcome(hall.run, run), (errors.InvalidRun, told))
        self.assertEqual([raised(hall.stage, 0, 1, 0), raised(hall.stage, 2, 0, 1)], ["InvalidStage"] * 2)

    def test_constructor(self):
        for wrong, _, _ in samples.wrong_bits():
            for most in (0, None, -1):
                self.assertEqual(raised(BudgetHall, wrong, most), "InvalidBits")
        for wrong, _, _ in samples.wrong_numbers(-1, -5, -support.HUGE):
            self.assertEqual(raised(BudgetHall, 2, wrong), "InvalidNumber")
            self.assertEqual(raised(LineBudgetHall, [0, 1], wrong), "InvalidNumber")
        self.assertEqual(BudgetHall(most=3, bits=2), BudgetHall(2, 3))


class LineBudgetHallTest(unittest.TestCase):

    def test_both(self):
        hall = LineBudgetHall([1, 0], 2)
        self.assertEqual([isinstance(hall, kind) for kind in (Hall, LineHall, BudgetHall)], [True] * 3)
        self.assertEqual([hall.order, hall.most, hall.bits], [[1, 0], 2, 2])
        self.assertEqual(raised(hall.stage, 0, 0, 1), "turn 1")
        hall.run([(1, 1, 0), (0, 0, 1)])
        self.assertEqual([raised(hall.stage, 1, 0, 1), raised(hall.stage, 0, 0, 1)], ["refused 3", "turn 1"])
        hall.run([(1, 0, 0), (0, 0, 0), (1, 0, 0)])
        self.assertEqual([raised(hall.stage, 0, 2, 0), raised(hall.stage, 1, 1, 0)], ["refused 3", "turn 0"])
        hall.undo()
        self.assertEqual(raised(hall.stage, 0, 0, 0), "turn 1")
        hall.undo()
        hall.run([(1, 0, 1)])
        self.assertEqual(raised(hall.undo), "none")
        self.assertEqual(raised(hall.undo), "NothingToUndo")

    def test_which_comes_first(self):
        for most, run, told in ((0, [(1, 0, 1), (1, 0, 1)], "turn 0"), (0, [(0, 0, 1), (1, 0, 1)], "refused 1"),
                                (0, [(0, 0, 0), (0, 0, 1)], "turn 1"), (1, [(0, 0, 1), (1, 0, 1), (1, 0, 0)], "refused 2"),
                                (1, [(0, 0, 1), (0, 0, 1)], "turn 1"), (1, [(0, 0, 1), (1, 0, 0), (1, 0, 0), (0, 0, 1)], "turn 0"),
                                (1, [(0, 0, 1), (1, 0, 0), (0, 0, 1), (0, 0, 0)], "refused 2"),
                                (0, [(1, 0, 1), (1, 1, 0), (1, 2, 0)], "InvalidRun"), (0, [(1, 0, 1), None], "InvalidRun"),
                                (5, [(0, 0, 1), (1, 0, 1), (0, 2, 0), (1, 1, 0)], "none")):
            hall = LineBudgetHall([0, 1], most)
            self.assertEqual(raised(hall.run, run), told, run)
            self.assertEqual(len(hall), 4 if told == "none" else 0)

    def test_constructor(self):
        for wrong, _, _ in samples.wrong_own_orders():
            for most in (0, None, -1):
                self.assertEqual(raised(LineBudgetHall, wrong, most), "InvalidOrder")
        self.assertEqual(LineBudgetHall(most=3, order=[1, 0]), LineBudgetHall([1, 0], 3))


class DescribedTest(unittest.TestCase):

    def test_described(self):
        halls = [Hall(3), LineHall([2, 0, 1]), BudgetHall(3, 7), LineBudgetHall([2, 0, 1], 7)]
        for hall in halls:
            hall.run([(2, 1, 0), (0, 0, 0)])
        self.assertEqual([hall.described() for hall in halls],
                         [["bits 3", "stages 2"], ["bits 3", "stages 2", "order 2,0,1"], ["bits 3", "stages 2", "most 7"],
                          ["bits 3", "stages 2", "order 2,0,1", "most 7"]])
        self.assertEqual(LineBudgetHall([0], 0).described(), ["bits 1", "stages 0", "order 0", "most 0"])
        order = list(range(60))[::-1]
        self.assertEqual(LineHall(order).described()[2], "order " + ",".join(map(str, order)))


class AllMethodsTest(unittest.TestCase):
    """What [31] promises of a hall holds for each subclass."""

    def halls(self, most=400):
        return [LineHall([2, 0, 1]), BudgetHall(3, most), LineBudgetHall([2, 0, 1], most)]

    def test_moves(self):
        chance = random.Random(323)
        for hall in self.halls():
            plain = Hall(3)
            for turn in range(60):
                if turn % 4 == 3:
                    hall.undo()
                    plain.undo()
                else:
                    run = [support.some_stage(3, [2, 0, 1][(len(hall) + at) % 3], chance) for at in range(turn % 5)]
                    for each in (hall, plain):
                        if len(run) == 1:
                            self.assertIs(each.stage(*run[0]), None)
                        else:
                            self.assertIs(each.run(run), None)
                self.assertEqual([hall.log, hall.mapping, len(hall), hall.bits], [plain.log, plain.mapping, len(plain), 3])
                self.assertEqual([hall.where(place) for place in range(8)], [plain.where(place) for place in range(8)])
                self.assertEqual([hall.whence(place) for place in range(8)], [plain.whence(place) for place in range(8)])
                wanted = support.some_mapping(3, chance)
                self.assertEqual([hall.left_for(wanted), hall.fewest_left(wanted)],
                                 [plain.left_for(wanted), plain.fewest_left(wanted)])
            self.assertEqual([hall == plain, plain == hall], [False, False])

    def test_twins(self):
        for hall in self.halls(2):
            hall.run([(2, 1, 0)])
            hall.run([])
            hall.run([(0, 0, 0), (1, 0, 0)])
            twin = hall.twin()
            self.assertEqual([type(twin) is type(hall), twin == hall, twin.described()], [True, True, hall.described()])
            twin.stage(2, 0, 1)
            self.assertEqual([len(hall), len(twin), hall == twin], [3, 4, False])
            wanted = {LineHall: "turn 2", BudgetHall: "none", LineBudgetHall: "turn 2"}[type(hall)]
            self.assertEqual(raised(hall.stage, 0, 0, 1), wanted)
            wanted = {LineHall: "none", BudgetHall: "refused 3", LineBudgetHall: "refused 3"}[type(hall)]
            self.assertEqual(raised(twin.stage, 0, 0, 1), wanted)
            while len(twin) > 1:
                twin.undo()
            # The empty run, the stage ahead of it, and nothing more.
            told = [(raised(twin.undo), len(twin)) for _ in range(3)]
            self.assertEqual(told, [("none", 1), ("none", 0), ("NothingToUndo", 0)])
            self.assertGreater(len(hall), 2)

    def test_errors(self):
        for hall in self.halls(0):
            for value in (None, 8, -1, True, "0", hall, Console()):
                self.assertEqual([raised(hall.where, value), raised(hall.whence, value)], ["InvalidPlace"] * 2)
                self.assertEqual([raised(hall.left_for, value), raised(hall.fewest_left, value)], ["InvalidMapping"] * 2)
                self.assertEqual(raised(hall.run, value), "InvalidRun")
            self.assertEqual([raised(hall.left_for, prefix(2)), raised(hall.fewest_left, prefix(60))], ["UnlikeBits"] * 2)
            self.assertEqual([raised(hall.undo), hall.log], ["NothingToUndo", []])


if __name__ == "__main__":
    unittest.main()
