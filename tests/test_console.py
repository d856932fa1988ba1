"""Promise [34]: the console."""

import random
import unittest

from bitstages import errors
from bitstages.console import Console
from bitstages.fewest import fewest_stages
from bitstages.halls import Hall, LineHall
from bitstages.mappings import prefix, reversal
from bitstages.oneruns import one_run
from bitstages.orders import goes_always
from bitstages.texts import format_mapping, format_run
from tests import support

ALL_WORDS = "bits order run undo where whence mapping log one always fewest left state".split()


def run_all(console, *commands):
    return [console.execute(command) for command in commands]


class ExamplesTest(unittest.TestCase):

    def test_examples(self):
        console = Console()
        told = run_all(console, "bits 2", "run 1:1:0 0:2:0", "where 1", "mapping", "always", "fewest", "one 1 0", "left 2 1 0", "state")
        self.assertEqual(told, ["ok", "ok", "2", "2,3 0", "no", "2", "1:1:0 0:2:0", "1,3 0", "bits 2; stages 2"])
        told = run_all(console, "undo", "log", "order 1 0", "run 1:1:0 0:0:0 1:0:1", "mapping", "whence 3")
        self.assertEqual(told, ["ok", "none", "ok", "ok", "1,3 2", "3"])
        with self.assertRaises(errors.OutOfTurn) as caught:
            console.execute("run 1:1:0")
        self.assertEqual(caught.exception.bit, 0)


class CaseOfCommands(unittest.TestCase):

    def check_raises(self, console, command, error, index="none"):
        before = run_all(console, "state", "log", "mapping")
        self.assertEqual(support.outcome(console.execute, command), (error, index), command)
        self.assertEqual(run_all(console, "state", "log", "mapping"), before)


class AnswersTest(CaseOfCommands):

    def test_at_first(self):
        console = Console()
        self.assertEqual(run_all(console, "state", "log", "mapping", "where 1", "whence 0", "always", "fewest", "one 0", "left 1 1"),
                         ["bits 1; stages 0", "none", "1 0", "1", "0", "yes", "0", "0:0:0", "1 1"])
        self.check_raises(console, "undo", errors.NothingToUndo)

    def test_kinds(self):
        console = Console()
        for command in ("state", "bits 3", "log", "order 1 0", "run 1:1:0", "undo", "where 0", "fewest", "one 0 1", "left 1 2 0"):
            self.assertIs(type(console.execute(command)), str)

    def check_all(self, console, hall, chance):
        bits = hall.bits
        self.assertEqual(console.execute("mapping"), format_mapping(hall.mapping))
        self.assertEqual(console.execute("log"), format_run(hall.log) or "none")
        self.assertEqual(console.execute("state"), "; ".join(hall.described()))
        self.assertEqual(console.execute("always"), "yes" if goes_always(hall.mapping) else "no")
        for place in support.some_places(bits, chance, 3):
            self.assertEqual(console.execute(f"where {place}"), str(hall.where(place)))
            self.assertEqual(console.execute(f"whence {place}"), str(hall.whence(place)))
        order = chance.sample(range(bits), bits)
        found = one_run(hall.mapping, order)
        self.assertEqual(console.execute("one " + " ".join(map(str, order))), "none" if found is None else format_run(found))
        rows, offset = support.some_mapping(bits, chance)
        command = "left " + " ".join(map(str, rows)) + f" {offset}"
        self.assertEqual(console.execute(command), format_mapping(hall.left_for((rows, offset))))
        if bits <= 7:
            self.assertEqual(console.execute("fewest"), str(fewest_stages(hall.mapping)))

    def test_halls(self):
        chance = random.Random(341)
        for bits in (1, 2, 3, 5, 60):
            console, hall = Console(), Hall(bits)
            self.assertEqual(console.execute(f"bits {bits}"), "ok")
            self.check_all(console, hall, chance)
            for turn in range(12):
                if turn % 4 == 3:
                    self.assertEqual(console.execute("undo"), "ok")
                    hall.undo()
                else:
                    run = support.some_run(bits, 1 + turn % 3, chance)
                    self.assertEqual(console.execute("run " + format_run(run)), "ok")
                    hall.run(run)
                self.check_all(console, hall, chance)

    def test_line_halls(self):
        chance = random.Random(342)
        for bits in (1, 2, 4, 60):
            order = chance.sample(range(bits), bits)
            console, hall = Console(), LineHall(order)
            self.assertEqual(console.execute("order " + " ".join(map(str, order))), "ok")
            for turn in range(8):
                if turn % 4 == 3:
                    self.assertEqual(console.execute("undo"), "ok")
                    hall.undo()
                else:
                    run = [support.some_stage(bits, order[(len(hall) + at) % bits], chance) for at in range(turn + 1)]
                    self.assertEqual(console.execute("run " + format_run(run)), "ok")
                    hall.run(run)
                self.check_all(console, hall, chance)

    def test_yes_and_no(self):
        console = Console()
        self.assertEqual(run_all(console, "bits 2", "always", "run 0:2:0", "always", "run 1:1:0", "always", "run 0:2:0", "always"),
                         ["ok", "yes", "ok", "yes", "ok", "no", "ok", "no"])
        self.assertEqual(run_all(console, "one 0 1", "one 1 0", "fewest", "undo", "one 0 1", "one 1 0", "fewest"),
                         ["none", "none", "3", "ok", "0:2:0 1:1:0", "none", "2"])

    def test_a_new_hall_each_time(self):
        console = Console()
        run_all(console, "bits 3", "run 0:2:0")
        self.assertEqual(run_all(console, "bits 3", "state", "log"), ["ok", "bits 3; stages 0", "none"])
        self.check_raises(console, "undo", errors.NothingToUndo)
        self.assertEqual(run_all(console, "order 0 1", "run 0:2:0", "order 0 1", "state"),
                         ["ok", "ok", "ok", "bits 2; stages 0; order 0,1"])
        self.assertEqual(run_all(console, "bits 2", "run 1:1:0", "state"), ["ok", "ok", "bits 2; stages 1"])

    def test_sixty_bits(self):
        console = Console()
        top = 2 ** 60 - 1
        run = [(0, top - 1, 0), (59, 2 ** 59 - 1, 1)]
        end = support.slow_walk(run, top)
        self.assertEqual(run_all(console, "bits 60", "run " + format_run(run), f"where {top}", f"whence {end}"),
                         ["ok", "ok", str(end), str(top)])


class LongTest(CaseOfCommands):

    def test_many_stages(self):
        console = Console()
        run_all(console, "bits 60", "run " + " ".join(["59:1:0"] * 400))
        self.assertEqual(run_all(console, "state", "log", "fewest"), ["bits 60; stages 400", " ".join(["59:1:0"] * 400), "0"])
        console.execute("undo")
        self.check_raises(console, "run " + " ".join(["59:1:0"] * 401), errors.InvalidRun, None)
        self.check_raises(console, "run " + " ".join(["59:1:0"] * 3000), errors.InvalidRun, None)

    def test_more_stages_than_a_text_has(self):
        """The log is told also if it is somewhat longer than a run that can be parsed."""
        console = Console()
        run_all(console, "bits 1", "run " + " ".join(["0:0:1"] * 300), "run " + " ".join(["0:0:1"] * 150))
        self.assertEqual(run_all(console, "state", "log", "mapping"), ["bits 1; stages 450", " ".join(["0:0:1"] * 450), "1 0"])

    def test_many_commands(self):
        console = Console()
        console.execute("bits 2")
        for turn in range(100):
            self.assertEqual(run_all(console, "run 0:2:0 1:1:0", "state"), ["ok", f"bits 2; stages {2 * turn + 2}"])
        for turn in range(99, -1, -1):
            self.assertEqual(run_all(console, "undo", "state"), ["ok", f"bits 2; stages {2 * turn}"])
        self.check_raises(console, "undo", errors.NothingToUndo)


class WrongCommandsTest(CaseOfCommands):

    def consoles(self):
        yield Console()
        console = Console()
        run_all(console, "bits 3", "run 0:2:0", "run 2:1:1 1:1:0")
        yield console
        console = Console()
        run_all(console, "order 2 0 1", "run 2:1:0 0:0:0")
        yield console

    def test_any_value(self):
        for console in self.consoles():
            for value in support.odd_values() + [Console(), console, ["state"], ("state",), {"state": 1}]:
                self.check_raises(console, value, errors.InvalidCommand)

    def test_unknown_words(self):
        for console in self.consoles():
            for command in ("", " ", "x", "State", "STATE", "states", "stat", "help", "stage 0 0 0", "twin", "ok", "none", "0", "1", "len",
                            "described", "execute state", "bits2", "bits:2", "undo;", "state\n", "state\t", "\tstate", "\nstate",
                            "wherever 0", "run0:0:0", "order,0", "mapping.", "one1"):
                self.check_raises(console, command, errors.InvalidCommand)

    def test_spaces(self):
        for console in self.consoles():
            for command in ("state", "bits 2", "order 0 1", "run 0:0:1", "undo", "where 0", "whence 0", "mapping", "log", "one 0 1 2",
                            "always", "fewest", "left 1 2 4 0"):
                for wrong in (" " + command, command + " ", "  " + command, command + "  ", command.replace(" ", "  ", 1) + "  ",
                              command.replace(" ", "\t") + " "):
                    self.check_raises(console, wrong, errors.InvalidCommand)
                if " " in command:
                    self.check_raises(console, command.replace(" ", "  ", 1), errors.InvalidCommand)
                    self.check_raises(console, command.replace(" ", "  ", 2), errors.InvalidCommand)

    def test_too_few_or_too_many_words(self):
        for console in self.consoles():
            for word in ALL_WORDS:
                if word in ("undo", "mapping", "log", "always", "fewest", "state"):
                    for behind in (" 0", " 0 0", " x", " 0:0:0", " state", " " + word):
                        self.check_raises(console, word + behind, errors.InvalidCommand)
                else:
                    self.check_raises(console, word, errors.InvalidCommand)
            for command in ("bits 1 2", "bits 2 2", "where 0 0", "whence 0 0", "where 0 1 0", "left 1", "left 0"):
                self.check_raises(console, command, errors.InvalidCommand)

    def test_numbers(self):
        wrongs = ["", "x", "+1", "-1", "-0", "01", "00", "1.0", "1_0", "0x1", "1,2", "1:2", "1:2:0", "1" * 21, "0" * 21, "one", "None", "(1)",
                  "1\n", "1\t", "1" * 4000]
        for console in self.consoles():
            for wrong in wrongs:
                for start in ("bits ", "where ", "whence ", "order ", "order 0 ", "order 0 1 ", "one ", "one 0 ", "left ", "left 1 ",
                              "left 1 2 4 "):
                    self.check_raises(console, start + wrong, errors.InvalidCommand)
                for start, end in (("order ", " 0"), ("one ", " 1 2"), ("left ", " 2 0"), ("left 1 ", " 0")):
                    self.check_raises(console, start + wrong + end, errors.InvalidCommand)

    def test_stages(self):
        wrongs = ["", "x", "0", "0:0", "0:0:0:0", ":0:0", "0::0", "0:0:", "00:0:0", "0:00:0", "0:0:00", "+0:0:0", "0:-2:0", "0:0:01", "0,0,0",
                  "0:x:0", "0:" + "1" * 21 + ":0", "0:2.0:0", "0;0;0", "(0:0:0)", "0:0:0\n"]
        for console in self.consoles():
            for wrong in wrongs:
                for command in ("run " + wrong, "run 0:0:0 " + wrong, "run " + wrong + " 0:0:0", "run 2:0:0 9:9:9 " + wrong):
                    self.check_raises(console, command, errors.InvalidCommand)


class OtherErrorsTest(CaseOfCommands):

    def test_new_halls(self):
        console = Console()
        run_all(console, "bits 3", "run 0:2:0")
        for number in (0, 61, 62, 100, 10 ** 19, 10 ** 20 - 1):
            self.check_raises(console, f"bits {number}", errors.InvalidBits)
        for numbers in ("1", "0 0", "1 2", "0 1 3", "0 1 2 2", "5", "0 1 99999999999999999999", "1 1", " ".join(map(str, range(61)))):
            self.check_raises(console, "order " + numbers, errors.InvalidOrder)
        self.assertEqual(run_all(console, "undo", "state"), ["ok", "bits 3; stages 0"])

    def test_runs(self):
        console = Console()
        run_all(console, "bits 3", "run 0:2:0")
        for word in ("0:1:0", "3:0:0", "0:8:0", "0:0:2", "9:9:9", "0:99999999999999999999:0", "99999999999999999999:0:0", "2:4:1"):
            self.check_raises(console, "run " + word, errors.InvalidRun, 0)
            self.check_raises(console, "run 0:0:1 1:0:1 " + word, errors.InvalidRun, 2)
        self.assertEqual(run_all(console, "undo", "state"), ["ok", "bits 3; stages 0"])

    def test_turns(self):
        console = Console()
        run_all(console, "order 2 0 1", "run 2:1:0 0:0:0")
        for command in ("run 0:0:0", "run 2:1:0", "run 1:0:1 1:0:0", "run 1:0:0 2:0:0 0:0:0 2:0:0"):
            self.check_raises(console, command, errors.OutOfTurn)
        self.check_raises(console, "run 0:0:0 3:0:0", errors.InvalidRun, 1)
        self.assertEqual(run_all(console, "run 1:0:1", "state"), ["ok", "bits 3; stages 3; order 2,0,1"])

    def test_places(self):
        for bits in (1, 3, 60):
            console = Console()
            console.execute(f"bits {bits}")
            for number in (2 ** bits, 2 ** bits + 1, 10 ** 20 - 1):
                self.check_raises(console, f"where {number}", errors.InvalidPlace)
                self.check_raises(console, f"whence {number}", errors.InvalidPlace)

    def test_orders(self):
        console = Console()
        run_all(console, "bits 3", "run 0:2:0")
        for numbers in ("0", "0 1", "0 1 3", "0 1 1", "0 1 2 3", "0 1 2 2", "5", "0 1 99999999999999999999"):
            self.check_raises(console, "one " + numbers, errors.InvalidOrder)

    def test_left(self):
        console = Console()
        run_all(console, "bits 3", "run 0:2:0")
        for numbers, index in (("0 0", 0), ("1 1 0", 1), ("1 2 3 0", 2), ("1 2 4 8", 3), ("8 2 4 0", 0), ("2 0", 0), ("1 2", 1),
                               ("1 2 4 99999999999999999999", 3), ("1 1 1 9", 1)):
            self.check_raises(console, "left " + numbers, errors.InvalidMapping, index)
        self.check_raises(console, "left " + " ".join(["1"] * 62), errors.InvalidMapping, None)
        for mapping in (prefix(1), prefix(2), prefix(4), reversal(60)):
            command = "left " + " ".join(map(str, mapping[0])) + " 0"
            self.check_raises(console, command, errors.UnlikeBits)
        self.assertEqual(run_all(console, "left 1 2 4 0", "left 3 2 4 0"), ["3,2,4 0", "1,2,4 0"])

    def test_too_large(self):
        console = Console()
        for bits in (8, 60):
            run_all(console, f"bits {bits}", "run 0:2:0")
            self.check_raises(console, "fewest", errors.TooLarge)
            self.assertEqual(support.limit_of(console.execute, "fewest"), 7)
            self.assertEqual(run_all(console, "run 1:1:0", "run 0:2:0", "fewest"), ["ok", "ok", "3"])


class NothingSharedTest(unittest.TestCase):

    def test_two_consoles(self):
        one, other = Console(), Console()
        run_all(one, "bits 2", "run 0:2:0")
        self.assertEqual(run_all(other, "state", "log"), ["bits 1; stages 0", "none"])
        run_all(other, "bits 2", "run 1:1:0", "run 1:0:1")
        self.assertEqual(run_all(one, "log", "undo", "log"), ["0:2:0", "ok", "none"])
        self.assertEqual(run_all(other, "log", "undo", "log"), ["1:1:0 1:0:1", "ok", "1:1:0"])

    def test_class(self):
        self.assertEqual(Console.__module__, "bitstages.console")
        self.assertIn("execute", vars(Console))
        self.assertEqual(Console().execute(command="state"), "bits 1; stages 0")


if __name__ == "__main__":
    unittest.main()
