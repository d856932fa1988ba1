"""Promise [31]: halls whose values are moved stage by stage."""

import random
import unittest

from bitstages import errors
from bitstages.console import Console
from bitstages.fewest import fewest_stages
from bitstages.halls import BudgetHall, Hall, LineBudgetHall, LineHall
from bitstages.mappings import inverse, prefix, reversal, then
from bitstages.stages import run_mapping
from tests import samples, support

SWAP = ([2, 1], 0)


class SlowHall:
    """What a hall does, by a list of where the value of each place is."""

    def __init__(self, bits):
        self.bits = bits
        self.calls = []

    def log(self):
        return [stage for call in self.calls for stage in call]

    def places(self):
        return [support.slow_walk(self.log(), place) for place in range(2 ** self.bits)]


class CaseOfHalls(unittest.TestCase):

    def check_same(self, hall, slow):
        places = slow.places()
        self.assertEqual([hall.where(place) for place in range(2 ** slow.bits)], places)
        self.assertEqual([hall.whence(place) for place in places], list(range(2 ** slow.bits)))
        self.assertEqual([hall.log, len(hall), hall.bits], [slow.log(), len(slow.log()), slow.bits])
        self.assertEqual(hall.mapping, support.slow_mapping(slow.bits, slow.log()))
        self.assertEqual(hall.described()[:2], [f"bits {slow.bits}", f"stages {len(slow.log())}"])

    def check_raises(self, error, call, *args):
        self.assertEqual(support.outcome(call, *args), (error, "none"))


class ExamplesTest(unittest.TestCase):

    def test_examples(self):
        hall = Hall(2)
        told = [hall.stage(1, 1, 0), hall.run([(0, 2, 0), (1, 1, 0)]), hall.mapping, hall.where(1), hall.whence(1), len(hall),
                hall.described()]
        self.assertEqual(told, [None, None, ([2, 1], 0), 2, 2, 3, ["bits 2", "stages 3"]])
        told = [hall.undo(), hall.log, hall.left_for(SWAP), hall.fewest_left(SWAP), hall == hall.twin()]
        self.assertEqual(told, [None, [(1, 1, 0)], ([3, 1], 0), 2, True])


class DrawnCallsTest(CaseOfHalls):

    def draw(self, hall, slow, chance):
        """Do one call on both."""
        kind = chance.randrange(4)
        if kind == 0:
            if slow.calls:
                slow.calls.pop()
                self.assertIs(hall.undo(), None)
            else:
                self.check_raises(errors.NothingToUndo, hall.undo)
        elif kind == 1:
            stage = support.some_run(slow.bits, 1, chance)[0]
            slow.calls.append([stage])
            self.assertIs(hall.stage(*stage), None)
        else:
            run = support.some_run(slow.bits, chance.randrange(5), chance)
            slow.calls.append(list(run))
            self.assertIs(hall.run(run), None)
            run.clear()

    def test_few_bits(self):
        for bits in (1, 2, 3, 4):
            for seed in range(3):
                chance = random.Random(seed)
                hall, slow = Hall(bits), SlowHall(bits)
                self.check_same(hall, slow)
                for _ in range(50):
                    self.draw(hall, slow, chance)
                    self.check_same(hall, slow)

    def test_sixty_bits(self):
        chance = random.Random(311)
        hall, calls = Hall(60), []
        for turn in range(200):
            if turn % 7 == 6:
                hall.undo()
                calls.pop()
            else:
                calls.append(support.some_run(60, chance.randrange(4), chance))
                hall.run(calls[-1])
        log = [stage for call in calls for stage in call]
        self.assertEqual([hall.log, hall.mapping, len(hall)], [log, run_mapping(60, log), len(log)])
        for place in support.some_places(60, chance, 5):
            self.assertEqual(hall.where(place), support.slow_walk(log, place))
            self.assertEqual(hall.whence(hall.where(place)), place)
            self.assertEqual(hall.where(hall.whence(place)), place)

    def test_undo_to_the_beginning(self):
        chance = random.Random(312)
        for bits in (1, 3, 60):
            hall = Hall(bits)
            self.check_raises(errors.NothingToUndo, hall.undo)
            logs = []
            for many in (1, 0, 3, 0, 0, 7):
                logs.append(hall.log)
                hall.run(support.some_run(bits, many, chance))
            for log in logs[::-1]:
                self.assertIs(hall.undo(), None)
                self.assertEqual([hall.log, len(hall)], [log, len(log)])
            for _ in range(3):
                self.check_raises(errors.NothingToUndo, hall.undo)
                self.assertEqual(hall, Hall(bits))
            hall.stage(0, 0, 1)
            self.assertEqual([hall.log, hall.where(0)], [[(0, 0, 1)], 1])

    def test_many_calls(self):
        hall = Hall(3)
        for _ in range(200):
            hall.run([(0, 2, 0), (2, 1, 1)])
        self.assertEqual([len(hall), hall.mapping], [400, run_mapping(3, [(0, 2, 0), (2, 1, 1)] * 200)])
        for left in range(199, -1, -1):
            hall.undo()
            self.assertEqual(len(hall), 2 * left)
        self.check_raises(errors.NothingToUndo, hall.undo)
        hall.run([(1, 4, 0)] * 400)
        self.assertEqual([len(hall), hall.mapping], [400, ([1, 2, 4], 0)])


class RunsTest(CaseOfHalls):

    def test_a_wrong_stage_does_nothing(self):
        hall = Hall(3)
        hall.run([(0, 2, 0), (1, 1, 1)])
        before = hall.log
        good = (2, 3, 1)
        for wrong in samples.wrong_stages_of_three():
            for run, index in (([wrong], 0), ([good, wrong], 1), ([good, good, wrong, good, None], 2), ([good] * 399 + [wrong], 399)):
                self.assertEqual(support.outcome(hall.run, run), (errors.InvalidRun, index))
        for run in (None, (good,), "0:0:0", [good] * 401, {}, 0, hall, Console()):
            self.assertEqual(support.outcome(hall.run, run), (errors.InvalidRun, None))
        self.assertEqual([hall.log, hall.mapping, len(hall)], [before, run_mapping(3, before), 2])
        hall.undo()
        self.check_raises(errors.NothingToUndo, hall.undo)

    def test_an_empty_run_is_a_call(self):
        hall = Hall(2)
        hall.stage(0, 2, 0)
        hall.run([])
        self.assertEqual(len(hall), 1)
        hall.undo()
        self.assertEqual(hall.log, [(0, 2, 0)])
        hall.undo()
        self.assertEqual(hall.log, [])
        self.check_raises(errors.NothingToUndo, hall.undo)
        hall.run([])
        self.assertIs(hall.undo(), None)
        self.check_raises(errors.NothingToUndo, hall.undo)

    def test_wrong_stages(self):
        hall = Hall(3)
        for wrong in samples.wrong_stages_of_three():
            if type(wrong) is tuple and len(wrong) == 3:
                self.check_raises(errors.InvalidStage, hall.stage, *wrong)
        for wrong in (None, "0", [0], hall, -1, 3):
            self.check_raises(errors.InvalidStage, hall.stage, wrong, 0, 0)
        self.check_raises(errors.InvalidStage, hall.stage, 1, 2, 0)
        self.check_raises(errors.InvalidStage, hall.stage, 0, 8, 0)
        self.check_raises(errors.InvalidStage, hall.stage, 0, 0, 2)
        self.assertEqual([hall.log, len(hall)], [[], 0])
        self.check_raises(errors.NothingToUndo, hall.undo)

    def test_wrong_places(self):
        for bits in (1, 3, 60):
            hall = Hall(bits)
            hall.stage(0, 0, 1)
            for wrong, _, _ in samples.wrong_places(bits):
                self.check_raises(errors.InvalidPlace, hall.where, wrong)
                self.check_raises(errors.InvalidPlace, hall.whence, wrong)
            self.assertEqual([hall.where(2 ** bits - 1), hall.whence(2 ** bits - 2)], [2 ** bits - 2, 2 ** bits - 1])


class LeftTest(CaseOfHalls):

    def test_left_for(self):
        chance = random.Random(313)
        for bits in (1, 2, 3, 7, 60):
            hall = Hall(bits)
            for _ in range(6):
                wanted = support.some_mapping(bits, chance)
                left = hall.left_for(wanted)
                self.assertEqual(then(hall.mapping, left), wanted)
                for place in support.some_places(bits, chance, 4):
                    self.assertEqual(support.slow_end(left, hall.where(place)), support.slow_end(wanted, place))
                if bits <= 7:
                    self.assertEqual(hall.fewest_left(wanted), fewest_stages(left))
                self.assertEqual(hall.left_for(hall.mapping), ([2 ** bit for bit in range(bits)], 0))
                self.assertEqual(hall.fewest_left(hall.mapping), 0)
                hall.run(support.some_run(bits, 3, chance))

    def test_stages_that_are_left(self):
        hall = Hall(2)
        self.assertEqual(hall.fewest_left(SWAP), 3)
        for left, stage in ((2, (1, 1, 0)), (1, (0, 2, 0)), (0, (1, 1, 0)), (1, (0, 0, 1))):
            hall.stage(*stage)
            self.assertEqual(hall.fewest_left(SWAP), left)
        self.assertEqual(hall.left_for(SWAP), ([1, 2], 1))

    def test_errors(self):
        for bits in (1, 2, 8):
            hall = Hall(bits)
            for call in (hall.left_for, hall.fewest_left):
                for wrong, error, index in samples.wrong_mappings():
                    self.assertEqual(support.outcome(call, wrong), (error, index))
                for other in (1, 2, 3, 8, 60):
                    if other != bits:
                        self.check_raises(errors.UnlikeBits, call, prefix(other))
                        self.assertEqual(support.outcome(call, (prefix(other)[0], -1)), (errors.InvalidMapping, other))

    def test_too_large(self):
        for bits in (8, 60):
            hall = Hall(bits)
            self.assertEqual(support.limit_of(hall.fewest_left, prefix(bits)), 7)
            self.assertEqual(hall.fewest_left(reversal(bits)), bits // 2 * 3)
            hall.stage(0, 2, 0)
            self.assertEqual(support.limit_of(hall.fewest_left, reversal(bits)), 7)
            self.assertEqual(hall.fewest_left(hall.mapping), 0)
            self.assertEqual(hall.left_for(reversal(bits)), then(inverse(hall.mapping), reversal(bits)))
            hall.undo()
            self.assertEqual(hall.fewest_left(reversal(bits)), bits // 2 * 3)
        self.assertEqual(Hall(7).fewest_left(prefix(7)), 6)


class TwinsTest(CaseOfHalls):

    def test_neither_changes_the_other(self):
        hall = Hall(3)
        hall.run([(0, 2, 0), (1, 1, 0)])
        hall.run([])
        hall.stage(2, 1, 1)
        twin = hall.twin()
        self.assertIs(type(twin), Hall)
        self.assertIsNot(twin, hall)
        self.assertEqual([twin == hall, twin.log, twin.mapping], [True, hall.log, hall.mapping])
        before = hall.log
        twin.stage(0, 0, 1)
        self.assertEqual([hall.log, len(hall), twin == hall], [before, 3, False])
        twin.undo()
        self.assertEqual(twin, hall)
        hall.undo()
        self.assertEqual([len(hall), len(twin), twin.log], [2, 3, before])
        for left in (2, 2, 0):
            twin.undo()
            self.assertEqual(len(twin), left)
        self.check_raises(errors.NothingToUndo, twin.undo)
        self.assertEqual(len(hall), 2)
        for left in (2, 0):
            hall.undo()
            self.assertEqual(len(hall), left)

    def test_twin_of_a_twin(self):
        hall = Hall(1)
        hall.stage(0, 0, 1)
        other = hall.twin().twin()
        hall.undo()
        self.assertEqual([len(hall), len(other), other.where(0)], [0, 1, 1])
        self.assertEqual([Hall(5).twin() == Hall(5), Hall(60).twin().bits], [True, 60])


class EqualTest(CaseOfHalls):

    def check_equal(self, one, other, wanted):
        self.assertEqual([one == other, other == one, one != other, other != one], [wanted, wanted, not wanted, not wanted])

    def test_halls(self):
        self.check_equal(Hall(2), Hall(2), True)
        self.check_equal(Hall(2), Hall(3), False)
        one, other = Hall(2), Hall(2)
        one.run([(0, 2, 0), (1, 0, 1)])
        self.check_equal(one, other, False)
        other.stage(0, 2, 0)
        self.check_equal(one, other, False)
        # What was done in other calls is equal, if the stages are.
        other.stage(1, 0, 1)
        other.run([])
        self.check_equal(one, other, True)
        # The same mapping by other stages is not.
        one.run([(0, 0, 1), (0, 0, 1)])
        self.assertEqual(one.mapping, other.mapping)
        self.check_equal(one, other, False)
        other.run([(0, 0, 0), (0, 0, 0)])
        self.check_equal(one, other, False)

    def test_classes(self):
        halls = [Hall(2), LineHall([0, 1]), BudgetHall(2, 5), LineBudgetHall([0, 1], 5), LineHall([1, 0]), BudgetHall(2, 4),
                 LineBudgetHall([1, 0], 5), LineBudgetHall([0, 1], 4), Hall(1), LineHall([0]), LineHall([0, 1, 2]),
                 BudgetHall(3, 5), LineBudgetHall([0], 5), BudgetHall(2, 10 ** 79)]
        for at, one in enumerate(halls):
            for k, other in enumerate(halls):
                self.check_equal(one, other, at == k)
            self.check_equal(one, one.twin(), True)

    def test_any_value(self):
        for hall in (Hall(1), LineHall([0]), BudgetHall(1, 1), LineBudgetHall([0], 1)):
            hall.stage(0, 0, 1)
            for value in support.odd_values() + [Console(), [hall], (hall,), {"a": hall}, hall.described(), hall.log, hall.mapping]:
                self.check_equal(hall, value, value is hall)


class NewListsTest(unittest.TestCase):

    def halls(self):
        for hall in (Hall(3), LineHall([1, 2, 0]), BudgetHall(3, 9), LineBudgetHall([1, 2, 0], 9)):
            hall.run([(1, 4, 0), (2, 0, 1)])
            yield hall

    def test_properties(self):
        for hall in self.halls():
            twin = hall.twin()
            for told in (lambda: hall.log, lambda: hall.mapping, lambda: hall.described(), lambda: hall.left_for(([1, 2, 4], 1))):
                first = support.told(told())
                support.spoil(told())
                self.assertEqual(support.told(told()), first)
            hall.log.clear()
            hall.mapping[0].clear()
            self.assertEqual([hall == twin, hall.where(3), hall.whence(3)], [True, twin.where(3), twin.whence(3)])

    def test_orders(self):
        for hall in (LineHall([1, 2, 0]), LineBudgetHall([1, 2, 0], 9)):
            hall.order.clear()
            support.spoil(hall.order)
            self.assertEqual(hall.order, [1, 2, 0])
            self.assertIsNot(hall.order, hall.order)

    def test_arguments_are_not_kept(self):
        order = [1, 0]
        halls = [LineHall(order), LineBudgetHall(order, 3)]
        order.reverse()
        for hall in halls:
            self.assertEqual(hall.order, [1, 0])
        run = [(1, 1, 0), (0, 2, 1)]
        for hall in halls + [Hall(2), BudgetHall(2, 2)]:
            given = list(run)
            hall.run(given)
            given.clear()
            given.append((0, 0, 0))
            self.assertEqual(hall.log, run)
        wanted = ([2, 1], 0)
        hall.left_for(wanted)
        self.assertEqual(wanted, ([2, 1], 0))

    def test_kinds(self):
        hall = Hall(2)
        hall.run([(0, 2, 1)])
        self.assertEqual([type(item) for item in (hall.log, hall.log[0], hall.mapping, hall.mapping[0], hall.described())],
                         [list, tuple, tuple, list, list])
        self.assertEqual([type(item) for item in (len(hall), hall.bits, hall.where(0), hall.described()[0])], [int, int, int, str])


class ConstructorTest(CaseOfHalls):

    def test_bits(self):
        for bits in range(1, 61):
            hall = Hall(bits)
            self.assertEqual([hall.bits, hall.log, hall.mapping], [bits, [], ([2 ** bit for bit in range(bits)], 0)])
            self.assertEqual([hall.where(2 ** bits - 1), hall.described()], [2 ** bits - 1, [f"bits {bits}", "stages 0"]])
        self.assertEqual(Hall(bits=3), Hall(3))
        for wrong, _, _ in samples.wrong_bits():
            self.check_raises(errors.InvalidBits, Hall, wrong)

    def test_methods_stand_in_the_class(self):
        for name in "stage run undo where whence left_for fewest_left twin described bits mapping log __len__ __eq__".split():
            self.assertIn(name, vars(Hall))
        for kind in (Hall, LineHall, BudgetHall, LineBudgetHall):
            self.assertEqual(kind.__module__, "bitstages.halls")
            self.assertIn("described", vars(kind))
            self.assertIn("__init__", vars(kind))
        self.assertIn("order", vars(LineHall))
        self.assertIn("most", vars(BudgetHall))


if __name__ == "__main__":
    unittest.main()
