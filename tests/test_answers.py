"""The interface: how calls and answers stand in their lists, and what is kept."""

import contextlib
import io
import unittest

from linescriptsdesk.scripts import answers
from tests.deskhelp import SCRIPT, TEXT, load, origins, run, shown, told, trace

RAN = [6, 21, 120, 98, 98, 10, 122, 10, 99, 98, 98, 10, 122, 10, 98, 98, 98, 98, 10, 99, 98, 98, 10]
CAME_FROM = [6, 1, -1, 1, 4, 2, -1, 2, 4, 4, -1, 4, 3]
CALLS = load(SCRIPT) + run(TEXT) + origins(TEXT) + trace(2, TEXT) + trace(3, TEXT)


class Worked(unittest.TestCase):
    def test_the_list_of_answers_number_by_number(self):
        expected = [2, 1, 5] + [23] + RAN + [13] + CAME_FROM + [4, 3, 0, 1, 4] + [2, 1, 2]
        self.assertEqual(answers(CALLS), expected)

    def test_shown_has_its_length_ahead_of_it(self):
        numbers = answers(load("stop ;") + shown())
        self.assertEqual(numbers, [2, 1, 1, 8, 7, 115, 116, 111, 112, 32, 59, 10])

    def test_a_fault_is_three_numbers_and_a_refusal_one(self):
        numbers = answers(load("stop") + shown() + load("") + run("a") + trace(1, ""))
        self.assertEqual(numbers, [3, 0, 3, 4, 1, -1, 2, 1, 0, 1, -4, 1, -3])


class NoScriptYet(unittest.TestCase):
    def test_every_call_but_load_is_refused(self):
        for call in (shown(), run("a\n"), origins("a\n"), trace(1, "a\n")):
            self.assertEqual(told(call, call, load(""), shown()), [[-1], [-1], [1, 0], [0]])

    def test_it_is_refused_before_all_else(self):
        for call in (run("A"), origins("a\n" * 25), trace(0, "a"), trace(0, "")):
            self.assertEqual(told(call), [[-1]])

    def test_a_load_with_a_fault_gives_no_script(self):
        self.assertEqual(told(load("!"), run("A")), [[0, 2, 0], [-1]])

    def test_a_script_without_commands_is_a_script(self):
        self.assertEqual(told(load(""), run("a\n")), [[1, 0], [1, 2, 97, 10]])


class ManyCalls(unittest.TestCase):
    def test_forty_calls(self):
        got = told(*([load("keep ;"), shown(), run("a\n"), trace(1, "")] * 10))
        self.assertEqual(got, [[1, 1], [7] + [ord(s) for s in "keep ;\n"], [1, 2, 97, 10], [-3]] * 10)

    def test_rows_that_look_like_calls(self):
        self.assertEqual(told(load([0, 1, 2, 3, 4]), run([4, 1, 0]), load([])), [[0, 2, 0], [-1], [1, 0]])

    def test_the_longest_rows(self):
        got = told(load([32] * 8192), load([32] * 4096), run([10] * 4600))
        self.assertEqual(got, [[0, 1, 4096], [1, 0], [-4]])

    def test_runs_leave_the_script_and_one_another_alone(self):
        script = "bring ; keep ; if last delete ;"
        alone = told(load(script), run("a\nb\n"))[1]
        got = told(load(script), run("x\n"), run("a\nb\n"), trace(1, "y\n"), shown(), run("a\nb\n"))
        self.assertEqual((got[2], got[5]), (alone, alone))


class NothingKept(unittest.TestCase):
    def test_the_list_stays_as_it_was(self):
        calls = CALLS + shown() + load("stop") + run("A")
        before = list(calls)
        answers(calls)
        self.assertEqual(calls, before)

    def test_a_second_time_answers_as_the_first(self):
        first = answers(CALLS + shown())
        self.assertEqual(answers(CALLS + shown()), first)

    def test_a_script_is_not_kept_for_the_next_time(self):
        answers(load(SCRIPT))
        self.assertEqual(answers(shown()), [1, -1])

    def test_answers_are_lists_of_their_own(self):
        first = answers(CALLS)
        first.clear()
        self.assertNotEqual(answers(CALLS), [])

    def test_they_are_whole_numbers_alone(self):
        numbers = answers(CALLS + shown() + load("stop") + trace(0, ""))
        self.assertIs(type(numbers), list)
        self.assertEqual({type(number) for number in numbers}, {int})

    def test_nothing_is_printed(self):
        out, err = io.StringIO(), io.StringIO()
        with contextlib.redirect_stdout(out), contextlib.redirect_stderr(err):
            answers(CALLS + shown() + load("!"))
        self.assertEqual((out.getvalue(), err.getvalue()), ("", ""))


if __name__ == "__main__":
    unittest.main()
