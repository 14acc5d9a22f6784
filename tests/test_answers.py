"""The interface: how calls and answers stand in their lists, and what is kept."""

import contextlib
import io
import unittest

from linescriptsdesk.scripts import answers
from tests.deskhelp import SCRIPT, TEXT, again, form, held, load, origins, rest, row, run, shown, told, touched, trace

RAN = [6, 21, 120, 98, 98, 10, 122, 10, 99, 98, 98, 10, 122, 10, 98, 98, 98, 98, 10, 99, 98, 98, 10]
CAME_FROM = [6, 1, -1, 1, 4, 2, -1, 2, 4, 4, -1, 4, 3]
HELD = [3, 99, 98, 98]
TOUCHED = [4, 1, 0, 1, 1, 0, 1, 2, 0, 0, 1, 0, 1]
AGAIN = [4, 11, 120, 97, 10, 99, 97, 10, 99, 10, 97, 97, 10]
TEXT_CALLS = [run(TEXT), origins(TEXT), trace(2, TEXT), trace(3, TEXT)]
TEXT_CALLS += [held(TEXT), touched(TEXT), again(0, TEXT), rest(TEXT)]
ANSWERS = [RAN, CAME_FROM, [3, 0, 1, 4], [1, 2], HELD, TOUCHED, AGAIN, [-7]]
CALLS = load(SCRIPT) + shown() + [number for call in TEXT_CALLS for number in call]
LATER_CALLS = (held, touched, lambda text: again(1, text), rest)
FAR = 10 ** 18


class Worked(unittest.TestCase):
    def test_the_list_of_answers_number_by_number(self):
        form_bytes = [ord(sign) for sign in SCRIPT.replace("; ", ";\n") + "\n"]
        expected = [2, 1, 5] + [len(form_bytes) + 1, len(form_bytes)] + form_bytes
        expected += [23] + RAN + [13] + CAME_FROM + [4, 3, 0, 1, 4] + [2, 1, 2]
        expected += [4] + HELD + [13] + TOUCHED + [13] + AGAIN + [1, -7]
        self.assertEqual(answers(CALLS), expected)

    def test_each_call_alone(self):
        for call, answer in zip(TEXT_CALLS, ANSWERS):
            self.assertEqual(told(load(SCRIPT), call), [[1, 5], answer])

    def test_shown_has_its_length_ahead_of_it(self):
        numbers = answers(load("stop ;") + shown())
        self.assertEqual(numbers, [2, 1, 1, 8, 7, 115, 116, 111, 112, 32, 59, 10])

    def test_a_fault_is_three_numbers_and_a_refusal_one(self):
        numbers = answers(load("stop") + shown() + load("") + run("a") + trace(1, ""))
        self.assertEqual(numbers, [3, 0, 3, 4, 1, -1, 2, 1, 0, 1, -4, 1, -3])

    def test_the_later_calls_have_their_lengths_ahead_of_them(self):
        numbers = answers(load("keep ;") + held("ab\n") + touched("ab\n") + again(3, "b\n") + rest("b\n"))
        self.assertEqual(numbers, [2, 1, 1, 3, 2, 97, 98, 4, 1, 0, 0, 0, 4, 1, 2, 98, 10, 2, 1, 0])

    def test_the_later_calls_of_no_line(self):
        numbers = answers(load("keep ;") + held("") + touched("") + again(3, "") + rest(""))
        self.assertEqual(numbers, [2, 1, 1, 1, 0, 1, 0, 2, 0, 0, 2, 1, 0])

    def test_again_has_n_ahead_of_its_text(self):
        calls = [0] + row("first a none ;") + [7, 2, 4, 97, 97, 97, 10] + [7, 3, 4, 97, 97, 97, 10]
        self.assertEqual(answers(calls), [2, 1, 1, 4, 1, 2, 97, 10, 3, 1, 1, 10])


class NoScriptYet(unittest.TestCase):
    def test_every_call_but_load_is_refused(self):
        calls = [shown(), run("a\n"), origins("a\n"), trace(1, "a\n")] + [call("a\n") for call in LATER_CALLS]
        for call in calls:
            self.assertEqual(told(call, call, load(""), shown()), [[-1], [-1], [1, 0], [0]])

    def test_it_is_refused_before_all_else(self):
        calls = [run("A"), origins("a\n" * 25), trace(0, "a"), trace(0, "")]
        calls += [call("A") for call in LATER_CALLS]
        calls += [again(11, "a\n"), again(-1, "A"), again(FAR, ""), again(-FAR, "a\n" * 25)]
        for call in calls:
            self.assertEqual(told(call), [[-1]])

    def test_a_load_with_a_fault_gives_no_script(self):
        self.assertEqual(told(load("!"), run("A")), [[0, 2, 0], [-1]])
        for call in LATER_CALLS:
            self.assertEqual(told(load("stop"), call("a\n")), [[0, 3, 4], [-1]])

    def test_a_script_without_commands_is_a_script(self):
        self.assertEqual(told(load(""), run("a\n")), [[1, 0], [1, 2, 97, 10]])
        got = told(load(""), *[call("a\n") for call in LATER_CALLS])
        self.assertEqual(got, [[1, 0], [0], [1, 0, 0, 0], [1, 2, 97, 10], [1, 0]])


class ManyCalls(unittest.TestCase):
    def test_forty_calls(self):
        got = told(*([load("keep ;"), shown(), run("a\n"), trace(1, "")] * 10))
        self.assertEqual(got, [[1, 1], [7] + [ord(s) for s in "keep ;\n"], [1, 2, 97, 10], [-3]] * 10)

    def test_rows_that_look_like_calls(self):
        self.assertEqual(told(load([0, 1, 2, 3, 4]), run([4, 1, 0]), load([])), [[0, 2, 0], [-1], [1, 0]])
        got = told(load([]), held([5, 0]), touched([6, 0, 8]), again(8, [8, 0]), again(5, ""), rest([7]), rest([]))
        self.assertEqual(got, [[1, 0], [-4], [-4], [-4], [0, 0], [-4], [1, 0]])

    def test_the_longest_rows(self):
        got = told(load([32] * 8192), load([32] * 4096), run([10] * 4600))
        self.assertEqual(got, [[0, 1, 4096], [1, 0], [-4]])
        for call in LATER_CALLS:
            self.assertEqual(told(load(""), call([10] * 8192), call([97] * 8192), shown()), [[1, 0], [-4], [-4], [0]])

    def test_runs_leave_the_script_and_one_another_alone(self):
        script = "bring ; keep ; if last delete ;"
        alone = told(load(script), run("a\nb\n"))[1]
        between = [run("x\n"), held("x\n"), touched("x\ny\n"), again(2, "x\ny\n"), rest("y\n"), again(11, ""), shown()]
        for call in between:
            got = told(load(script), run("a\nb\n"), call, run("a\nb\n"))
            self.assertEqual((got[1], got[3]), (alone, alone))

    def test_each_is_answered_by_the_script_that_is_held_just_then(self):
        scripts = (SCRIPT, "change b ;", "stop", "keep ; if last delete ;", "", "before x ; !", "first a none ; trade ;")
        calls, expected, right = [], [], None
        for script in scripts:
            calls.append(load(script))
            expected.append(told(load(script))[0])
            right = script if expected[-1][0] == 1 else right
            for call in (rest("a\nb\n"), held("aa\nb\n"), touched("a\nb\n"), again(2, "ab\na\n")):
                calls.append(call)
                expected.append(told(load(right), call)[1])
        calls += [again(11, "a\n"), shown(), trace(2, "a\nb\n"), origins("a\n"), run("a")]
        expected += [told(load(right), call)[1] for call in calls[-5:]]
        self.assertEqual(len(calls), 40)
        self.assertEqual(told(*calls), expected)
        self.assertEqual(told(*(calls[:10] + calls[:10])), expected[:10] * 2)

    def test_all_nine_calls_and_loads_between_them(self):
        got = told(
            rest("a\n"), load("keep ; change b ;"), held("a\n"), touched("a\n"), again(1, "a\n"), rest("a\n"),
            load("after x ;"), held("a\n"), touched("a\n"), again(1, "a\n"), rest("a\n"), load("skip 0 ;"),
            run("a\n"), origins("a\n"), trace(1, "a\n"), shown(), load(""), touched("a\n"), rest("a\n"), again(0, "a"),
        )
        self.assertEqual(got, [
            [-1], [1, 2], [1, 97], [1, 1, 0, 0], [1, 2, 98, 10], [1, 1],
            [1, 1], [0], [1, 0, 0, 1], [2, 4, 97, 10, 120, 10], [-7], [0, 7, 5],
            [2, 4, 97, 10, 120, 10], [2, 1, -1, 1, 0], [1, 0], [10] + [ord(s) for s in "after x ;\n"],
            [1, 0], [1, 0, 0, 0], [1, 0], [-4],
        ])


class Refusals(unittest.TestCase):
    """After a refusal the object is as it was."""

    def test_each_refusal_of_the_later_calls_changes_nothing(self):
        refused = [call("a") for call in LATER_CALLS] + [call("a" * 16 + "\n") for call in LATER_CALLS]
        refused += [again(-1, "a\n"), again(11, "a\n")]
        script = "first a bb ; keep ;"
        after = [shown(), held("a\n"), touched("a\n"), again(1, "a\n"), rest("a\n")]
        alone = told(load(script), *after)[1:]
        for call in refused:
            got = told(load(script), call, *after)
            self.assertEqual((len(got[1]), got[1][0] < 0), (1, True))
            self.assertEqual(got[2:], alone)


class NothingKept(unittest.TestCase):
    EVERY = CALLS + load("stop") + run("A") + rest("A") + again(11, "a\n") + again(10, "a\n") + held("x\n")

    def test_the_list_stays_as_it_was(self):
        calls = list(self.EVERY)
        answers(calls)
        self.assertEqual(calls, self.EVERY)

    def test_a_second_time_answers_as_the_first(self):
        first = answers(self.EVERY)
        answers(load("change z ;") + rest("a\n") + held("a\n"))
        self.assertEqual(answers(self.EVERY), first)

    def test_a_script_is_not_kept_for_the_next_time(self):
        answers(load(SCRIPT))
        for call in [shown()] + [call("a\n") for call in LATER_CALLS]:
            self.assertEqual(answers(call), [1, -1])

    def test_answers_are_lists_of_their_own(self):
        first = answers(CALLS)
        first.clear()
        self.assertNotEqual(answers(CALLS), [])

    def test_they_are_whole_numbers_alone(self):
        numbers = answers(self.EVERY + rest("a\n") + touched("a\n") + load("change b ;") + touched("a\n") + rest("b\n"))
        self.assertIs(type(numbers), list)
        self.assertEqual({type(number) for number in numbers}, {int})

    def test_nothing_is_printed(self):
        out, err = io.StringIO(), io.StringIO()
        with contextlib.redirect_stdout(out), contextlib.redirect_stderr(err):
            answers(self.EVERY + load("!"))
        self.assertEqual((out.getvalue(), err.getvalue()), ("", ""))

    def test_the_one_form_answers_all_nine_calls_likewise(self):
        self.assertEqual(told(load(form(SCRIPT)), *TEXT_CALLS)[1:], ANSWERS)


if __name__ == "__main__":
    unittest.main()
