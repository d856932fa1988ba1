"""Promise [33]: texts of runs and of mappings."""

import random
import unittest

from bitstages import errors
from bitstages.mappings import is_mapping, prefix, reversal
from bitstages.texts import format_mapping, format_run, parse_mapping, parse_run
from tests import samples, support


def word_of(call, *args):
    """The word of the InvalidText that a call raises, "none" without one."""
    try:
        call(*args)
    except errors.InvalidText as error:
        return error.word
    return "none"


class ExamplesTest(unittest.TestCase):

    def test_examples(self):
        told = [format_run([(1, 1, 0), (0, 2, 1)]), format_run([]), format_mapping(([3, 2], 1)), parse_run(2, "1:1:0 0:2:1"),
                parse_mapping("3,2 1")]
        self.assertEqual(told, ["1:1:0 0:2:1", "", "3,2 1", [(1, 1, 0), (0, 2, 1)], ([3, 2], 1)])
        self.assertEqual(word_of(parse_run, 2, "1:1:0 0:1:0"), 1)


class RunsTest(unittest.TestCase):

    def check(self, bits, text, word):
        self.assertEqual(word_of(parse_run, bits, text), word, (bits, text))

    def test_there_and_back(self):
        chance = random.Random(331)
        for bits in (1, 2, 3, 10, 59, 60):
            for many in (0, 1, 2, 20, 399, 400):
                run = support.some_run(bits, many, chance)
                text = format_run(run)
                self.assertEqual(text, " ".join(f"{bit}:{mask}:{flip}" for bit, mask, flip in run))
                found = parse_run(bits, text)
                self.assertEqual(found, run)
                self.assertEqual({type(item) for stage in found for item in stage}, {int} if run else set())
                self.assertEqual({type(stage) for stage in found}, {tuple} if run else set())

    def test_the_longest_text(self):
        run = [(0, 2 ** 60 - 2, 1), (59, 2 ** 59 - 1, 0)] * 200
        text = format_run(run)
        self.assertLess(len(text), 20000)
        self.assertEqual(parse_run(60, text), run)
        self.check(60, text + " 0:0:0", 400)
        self.check(59, text, 0)

    def test_format_any_value(self):
        for bits in (3, 60):
            self.assertEqual(format_run([(bits - 1, 0, 1)]), f"{bits - 1}:0:1")
        for wrong in ([(60, 0, 0)], [(0, 1, 0)], [(0, 2 ** 60, 0)], [(0, 0, 2)], [(0, 0, True)], [[0, 0, 0]], [(0, 0)], [None]):
            self.assertEqual(support.outcome(format_run, wrong), (errors.InvalidRun, 0))
            self.assertEqual(support.outcome(format_run, [(1, 0, 0)] * 3 + wrong), (errors.InvalidRun, 3))
        for wrong in samples.NO_LISTS + [((0, 0, 0),), [(0, 0, 0)] * 401]:
            self.assertEqual(support.outcome(format_run, wrong), (errors.InvalidRun, None))

    def test_no_strings(self):
        for value in support.odd_values():
            if type(value) is not str:
                self.check(2, value, None)

    def test_strings_that_are_no_runs(self):
        good = "1:1:0"
        words = ["", " ", "a", "0", "0:0", "0:0:0:0", ":0:0", "0::0", "0:0:", "0,0,0", "0:0:0,", "0: 0:0", "(0, 0, 0)", "00:0:0",
                 "0:00:0", "0:0:00", "01:0:0", "0:02:0", "0:0:01", "+0:0:0", "0:+2:0", "0:0:+1", "-1:0:0", "0:-2:0", "0:0:-0",
                 "0:2.0:0", "0:0x2:0", "0:1_0:0", "0:2:0\t", "0:2:x", "True:0:0", "0:None:0", "1:2:0", "0:1:1", "2:0:0", "0:4:0",
                 "0:0:2", "1:3:0", "10:0:0", "0:" + "1" * 20 + ":0", "0:" + "1" * 21 + ":0", "0:1" + "0" * 4000 + ":0",
                 "0:" + "0" * 21 + ":0", "1" * 20 + ":0:0", "0:0:" + "9" * 21, "0:0:0\n", "\n", "0:0:0;", "none", ":", "::"]
        for word in words:
            for ahead in range(3):
                text = " ".join([good] * ahead + [word])
                self.check(2, text, "none" if text == "" else ahead)
                for behind in (" " + good, " x", " ", "  "):
                    self.check(2, text + behind, ahead)

    def test_spaces(self):
        for text, word in ((" ", 0), ("  ", 0), (" 1:1:0", 0), ("1:1:0 ", 1), ("1:1:0  ", 1), ("1:1:0  1:1:0", 1), ("1:1:0 1:1:0 ", 2),
                           (" 1:1:0 1:1:0", 0), ("1:1:0 1:1:0  1:1:0", 2), ("1:1:0\t1:1:0", 0), ("1:1:0,1:1:0", 0), ("", "none")):
            self.check(2, text, word)

    def test_digits(self):
        """A number of twenty digits is one, but no mask; one of twenty-one digits is none."""
        self.check(60, f"0:{2 ** 60 - 2}:0", "none")
        self.check(60, f"0:{2 ** 60}:0", 0)
        self.check(60, "0:99999999999999999998:0", 0)
        self.check(60, "0:100000000000000000000:0", 0)
        self.check(60, "59:0:0 60:0:0", 1)

    def test_other_digits(self):
        for digit in ("\u0661", "\u00b2", "\uff11"):
            self.check(2, f"{digit}:0:0", 0)
            self.assertEqual(word_of(parse_mapping, f"{digit} 0"), 0)
            self.assertEqual(word_of(parse_mapping, f"1 {digit}"), 1)

    def test_the_401st_word(self):
        for bits in (1, 60):
            text = " ".join(["0:0:1"] * 400)
            self.check(bits, text, "none")
            for behind in ("0:0:1", "x", "", "0:0:1 0:0:1", "0:0:1 x"):
                self.check(bits, text + " " + behind, 400)
            self.check(bits, "x" + text[1:] + " 0:0:1", 0)
            self.check(bits, text[:-1] + "2 0:0:1", 399)
            self.check(bits, " ".join(["0:0:1"] * 3000), 400)

    def test_bits_first(self):
        for wrong, _, _ in samples.wrong_bits():
            for text in ("0:0:0", "", "x", None, 5):
                self.assertEqual(support.outcome(parse_run, wrong, text), (errors.InvalidBits, "none"))


class MappingsTest(unittest.TestCase):

    def check(self, text, word):
        self.assertEqual(word_of(parse_mapping, text), word, text)

    def test_there_and_back(self):
        chance = random.Random(332)
        for bits in range(1, 61):
            mapping = support.some_mapping(bits, chance)
            text = format_mapping(mapping)
            self.assertEqual(text, ",".join(map(str, mapping[0])) + " " + str(mapping[1]))
            found = parse_mapping(text)
            self.assertEqual(found, mapping)
            self.assertIs(type(found), tuple)
            self.assertEqual({type(item) for item in found[0] + [found[1]]}, {int})
        for mapping in (([1], 0), ([1], 1), reversal(60), (prefix(60)[0], 2 ** 60 - 1)):
            self.assertEqual(parse_mapping(format_mapping(mapping)), mapping)

    def test_few_bits(self):
        for bits in (1, 2, 3):
            for mapping in support.all_mappings(bits):
                self.assertEqual(parse_mapping(format_mapping(mapping)), mapping)
        for one in range(5):
            for two in range(5):
                for offset in range(5):
                    wanted = "none" if is_mapping(([one, two], offset)) else 1 if is_mapping(([one, two], 0)) else 0
                    self.check(f"{one},{two} {offset}", wanted)

    def test_format_any_value(self):
        for wrong, error, index in samples.wrong_mappings():
            self.assertEqual(support.outcome(format_mapping, wrong), (error, index))

    def test_no_strings(self):
        for value in support.odd_values():
            if type(value) is not str:
                self.check(value, None)

    def test_the_first_word(self):
        for word in ("", "x", ",", "1,", ",1", "1,,2", "01,2", "1,02", "+1,2", "1,+2", "-1,2", "1;2", "1, 2", "(1,2)", "[1,2]", "1:2",
                     "1.0,2", "1,2,", "0", "2", "1,1", "1,0", "0,1", "3,3", "1,4", "4,1", "1,2,3", "3,5,6", "1,2,8", "1_0,2",
                     "1," + "2" * 20, "1," + "2" * 21, "1,2" + "0" * 5000, "1,000000000000000000002", "1,None", "True,2", "1,x",
                     ",".join(str(2 ** bit) for bit in range(61)), ",".join(["1"] * 61), ",".join(["1"] * 5000)):
            for behind in ("", " 0", " 1", " x", " 0 0", " ", "  "):
                self.check(word + behind, 0)
        for text in ("", " ", "  ", " 1", " 1 0", "\t1 0", "none", "1\t0", "1,2\n0", "1\n0"):
            self.check(text, 0)

    def test_the_offset(self):
        for word in ("", "x", "4", "5", "00", "01", "+1", "-1", "-0", "1.0", "1,2", "1:2", "1_0", "None", "True", "9" * 20, "1" * 21,
                     "0" * 21, "1" * 5000, "0\n", "0\t"):
            for behind in ("", " 0", " ", "  ", " x"):
                self.check("2,1 " + word + behind, 1)
        for text in ("2,1", "1", "2,1 ", "2,1  0"):
            self.check(text, 1)
        self.check(format_mapping(reversal(60))[:-1] + str(2 ** 60 - 1), "none")
        self.check(format_mapping(reversal(60))[:-1] + str(2 ** 60), 1)

    def test_further_words(self):
        for behind in (" ", "  ", " 0", " x", " 0 0", " 3,5,6", "  x"):
            self.check("2,1 3" + behind, 2)
        self.check("2,1 3", "none")


class NewListsTest(unittest.TestCase):

    def test_new(self):
        for told in (lambda: parse_run(2, "1:1:0 0:2:1"), lambda: parse_mapping("3,2 1"), lambda: parse_run(1, "")):
            first = support.told(told())
            support.spoil(told())
            self.assertEqual(support.told(told()), first)


if __name__ == "__main__":
    unittest.main()
