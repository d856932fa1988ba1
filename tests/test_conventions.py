"""Promise [2]: ways to call, arguments that stay as they are, lists that are new."""

import importlib
import unittest

from tests import samples, support


FILES = {
    "stages": "is_stage is_run run_mapping turned_run places_on busy_count is_along shows_run",
    "oneruns": "goes one_run meeting shows_meeting first_crowded run_count nth_run run_index",
    "crowds": "crowd nth_in_crowd used_count greatest_crowd calmest_order",
    "orders": "goes_always row_sequence fault_of failing_order shows_sequence shows_fault order_count nth_order "
              "stuck_sets shows_stuck",
    "tworuns": "two_runs shows_two_runs",
    "fewest": "stage_bounds fewest_stages shortest_run serves serving_sequence barring_sets shows_serving shows_barring "
              "best_twice",
    "counts": "mapping_count always_count share_of",
    "seen": "agrees some_mapping clash shows_clash agreeing_count sure_end can_end ends_needed",
    "led": "some_led blocked shows_blocked led_count nth_led led_end first_open can_lead",
    "texts": "format_run format_mapping parse_run parse_mapping",
}


class FilesTest(unittest.TestCase):

    def test_each_function_is_defined_in_its_file(self):
        called = {function for function, _ in samples.calls()}
        for file, names in FILES.items():
            module = importlib.import_module(f"bitstages.{file}")
            for name in names.split():
                with self.subTest(file, name=name):
                    self.assertEqual(getattr(module, name).__module__, f"bitstages.{file}")
                    self.assertIn(getattr(module, name), called)


class ConventionsTest(unittest.TestCase):

    def test_by_position_and_by_name(self):
        for function, parameters in samples.calls():
            with self.subTest(function.__name__):
                args = [good for _, good, _ in parameters]
                named = {name: good for name, good, _ in parameters}
                answer = support.told(function(*args))
                self.assertEqual(support.told(function(**named)), answer)
                backwards = {name: good for name, good, _ in parameters[::-1]}
                self.assertEqual(support.told(function(**backwards)), answer)
                first, rest = args[0], dict(list(named.items())[1:])
                self.assertEqual(support.told(function(first, **rest)), answer)

    def test_arguments_stay(self):
        for function, parameters in samples.calls():
            with self.subTest(function.__name__):
                args = [good for _, good, _ in parameters]
                before = support.told(args)
                function(*args)
                self.assertEqual(support.told(args), before)

    def test_arguments_stay_in_errors(self):
        for function, parameters in samples.calls():
            for at, (_, _, wrongs) in enumerate(parameters):
                for value, _, _ in wrongs:
                    args = [good for _, good, _ in parameters]
                    args[at] = value
                    before = support.told(args)
                    support.outcome(function, *args)
                    self.assertEqual(support.told(args), before)

    def test_answers_are_new(self):
        for function, parameters in samples.calls():
            with self.subTest(function.__name__):
                args = [good for _, good, _ in parameters]
                before = support.told(args)
                answer = function(*args)
                first = support.told(answer)
                support.spoil(answer)
                self.assertEqual(support.told(args), before)
                self.assertEqual(support.told(function(*args)), first)

    def test_arguments_are_not_kept(self):
        for function, parameters in samples.calls():
            with self.subTest(function.__name__):
                args = support.copied([good for _, good, _ in parameters])
                answer = function(*args)
                first = support.told(answer)
                support.spoil(args)
                self.assertEqual(support.told(answer), first)
                fresh = [good for _, good, _ in parameters]
                self.assertEqual(support.told(function(*fresh)), first)

    def test_trivial_mappings_are_new_too(self):
        from bitstages.mappings import inverse, power, renamed, then
        identity = ([1, 2, 4], 0)
        gray = ([3, 6, 4], 0)
        for call in (lambda: then(gray, identity), lambda: then(identity, gray), lambda: power(gray, 1),
                     lambda: renamed(gray, [0, 1, 2]), lambda: power(gray, 5), lambda: inverse(inverse(gray))):
            answer = call()
            self.assertEqual(answer, gray)
            self.assertIsNot(answer[0], gray[0])
            answer[0].clear()
            self.assertEqual([gray, identity], [([3, 6, 4], 0), ([1, 2, 4], 0)])
            self.assertEqual(call(), gray)

    def test_each_answer_is_another_list(self):
        from bitstages.mappings import power, prefix, reversal, rotation
        for call in (lambda: power(([3, 6, 4], 0), 0), lambda: reversal(5), lambda: prefix(5), lambda: rotation(5, 0)):
            self.assertIsNot(call()[0], call()[0])

    def test_same_answers_again(self):
        for function, parameters in samples.calls():
            args = [good for _, good, _ in parameters]
            again = support.copied(args)
            self.assertEqual(support.told(function(*args)), support.told(function(*again)))


if __name__ == "__main__":
    unittest.main()
