"""Rest: after how many runs a text is at rest (promise 4)."""

import unittest

from tests.deskhelp import (
    SCRIPT, TEXT, after_load, as_text, at_rest, coming, coming_again, load, rest, told,
)
from tests.test_again import counting_down
from tests.test_runs import SCRIPTS, texts

TAKING = "first a none ;"
GROWING = "if last after x ;"
LENGTHENING = "first a aa ;"
TO_AND_FRO = "if is a change c ; if is b change a ; if is c change b ;"
NOT_YET = [0]
TOO_MUCH = [-7]


class Worked(unittest.TestCase):
    def test_each_run_puts_more_lines_behind(self):
        self.assertEqual(after_load(SCRIPT, rest(TEXT)), [-7])


class AtRest(unittest.TestCase):
    def test_at_0_the_text_itself_comes(self):
        self.assertEqual(at_rest("", "a", "", "b"), [1, 0])
        self.assertEqual(at_rest("keep ; stop ; delete ;", "a"), [1, 0])
        self.assertEqual(at_rest("change x ; change a ;", "a"), [1, 0])
        self.assertEqual(at_rest("if has b delete ;", *["a"] * 24), [1, 0])

    def test_at_0_a_text_of_no_lines(self):
        for script in ("", "delete ;", "before x ; after y ;", SCRIPT):
            self.assertEqual(at_rest(script), [1, 0], script)

    def test_at_0_though_other_lines_stand_in_their_place(self):
        self.assertEqual(at_rest("before a ; delete ;", "a", "a"), [1, 0])
        self.assertEqual(at_rest("keep ; bring ; delete ;", "a", "b"), [1, 0])

    def test_lines_are_compared_in_order_and_whole(self):
        self.assertEqual(at_rest("if line 1 change b ; if line 2 change a ;", "a", "b"), [1, 1])
        self.assertEqual(at_rest("if last delete ;", "a"), [1, 1])
        self.assertEqual(at_rest("if line 3 delete ;", "a", "a", "a"), [1, 1])
        self.assertEqual(at_rest("swap a none ;", "a"), [1, 1])

    def test_at_1(self):
        self.assertEqual(at_rest("change x ;", "a", "b"), [1, 1])
        self.assertEqual(at_rest("delete ;", "a"), [1, 1])
        self.assertEqual(at_rest("if not has x after x ; change x ;", "a"), [1, 1])

    def test_from_0_to_10(self):
        for runs in range(11):
            self.assertEqual(at_rest(TAKING, "a" * runs), [1, runs])
            self.assertEqual(at_rest(TAKING, "aa" * (runs // 2), "a" * runs), [1, runs])
            self.assertEqual(at_rest("if line 1 delete ;", *["b"] * runs), [1, runs])

    def test_at_10_is_seen_by_an_eleventh_run(self):
        self.assertEqual(at_rest(TAKING, "a" * 10), [1, 10])
        self.assertEqual(coming_again(TAKING, 10, "a" * 10), [""])

    def test_only_after_eleven_runs(self):
        self.assertEqual(at_rest(TAKING, "a" * 11), NOT_YET)
        self.assertEqual(at_rest("if line 1 delete ;", *["b"] * 11), NOT_YET)

    def test_long_after_that(self):
        self.assertEqual(at_rest(TAKING, "a" * 16), NOT_YET)
        self.assertEqual(at_rest("if line 1 delete ;", *["b"] * 24), NOT_YET)

    def test_to_and_fro_for_ever(self):
        self.assertEqual(at_rest(TO_AND_FRO, "a"), NOT_YET)
        self.assertEqual(at_rest(TO_AND_FRO, "x", "b", "a"), NOT_YET)
        self.assertEqual(at_rest(TO_AND_FRO, "x"), [1, 0])

    def test_each_run_begins_without_letters_held(self):
        self.assertEqual(at_rest("trade ;", "a", "b", "c"), [1, 3])
        self.assertEqual(at_rest("if line 1 trade ;", "a"), [1, 1])


class TooMuchOnTheWay(unittest.TestCase):
    def test_the_first_run(self):
        self.assertEqual(at_rest("before x ; after y ;", *["a"] * 24), TOO_MUCH)
        self.assertEqual(at_rest("swap a bb ;", "a" * 9), TOO_MUCH)

    def test_a_run_on_the_way_has_a_line_of_17_letters(self):
        self.assertEqual(at_rest(LENGTHENING, "a" * 15), TOO_MUCH)
        self.assertEqual(at_rest(LENGTHENING, "a" * 7), TOO_MUCH)

    def test_a_run_on_the_way_begins_with_25_lines(self):
        for count in range(15, 25):
            self.assertEqual(at_rest(GROWING, *["a"] * count), TOO_MUCH, count)
        self.assertEqual(at_rest("if is b delete ; change b ; if last after b ;", *["a"] * 24), TOO_MUCH)

    def test_24_lines_on_the_way_are_not_too_much(self):
        self.assertEqual(at_rest("if is b delete ; change b ; if last after b ;", *["a"] * 23), [1, 2])
        self.assertEqual(at_rest("if is b delete ; change b ; if last after b ;", *["a"] * 12), [1, 2])

    def test_a_run_on_the_way_has_61_lines(self):
        self.assertEqual(at_rest(counting_down(13), *["aaa"] * 24), TOO_MUCH)

    def test_the_eleventh_run_has_a_line_of_17_letters(self):
        self.assertEqual(at_rest(LENGTHENING, "a" * 6), TOO_MUCH)

    def test_the_eleventh_run_has_a_line_of_16_letters(self):
        self.assertEqual(at_rest(LENGTHENING, "a" * 5), NOT_YET)

    def test_the_eleventh_run_has_25_lines(self):
        self.assertEqual(len(coming_again(GROWING, 10, *["a"] * 14)), 24)
        self.assertEqual(at_rest(GROWING, *["a"] * 14), NOT_YET)
        self.assertEqual(at_rest(GROWING, *["a"] * 13), NOT_YET)

    def test_the_eleventh_run_begins_with_25_lines(self):
        self.assertEqual(len(coming_again(GROWING, 10, *["a"] * 15)), 25)
        self.assertEqual(at_rest(GROWING, *["a"] * 15), TOO_MUCH)

    def test_the_eleventh_run_has_60_and_61_lines(self):
        lines = ["a" * 10] * 24
        for most, answer in ((1, NOT_YET), (12, NOT_YET), (13, TOO_MUCH), (24, TOO_MUCH)):
            script = counting_down(most)
            self.assertEqual(coming_again(script, 10, *lines), [""] * 24)
            self.assertEqual(at_rest(script, *lines), answer, most)

    def test_a_twelfth_run_is_not_looked_at(self):
        self.assertEqual(at_rest(LENGTHENING, "a" * 4), NOT_YET)
        self.assertEqual(at_rest(counting_down(13), *["a" * 11] * 24), NOT_YET)


class Order(unittest.TestCase):
    def test_no_script_ahead_of_all(self):
        self.assertEqual(told(rest("A"), rest("")), [[-1], [-1]])

    def test_no_text_ahead_of_too_much(self):
        self.assertEqual(after_load("swap a bb ;", rest("a" * 9 + "\nA\n")), [-4])
        self.assertEqual(after_load("before x ; after y ;", rest("a\n" * 25)), [-4])
        self.assertEqual(after_load("", rest("a")), [-4])

    def test_a_refusal_changes_nothing(self):
        right = rest("aa\n")
        got = told(load(TAKING + " if is b before b ;"), right, rest("A"), rest("b\n" * 24), right)
        self.assertEqual(got[1:], [[1, 2], [-4], [-7], [1, 2]])


class Promise4(unittest.TestCase):
    def test_it_is_what_runs_one_by_one_tell(self):
        for script in SCRIPTS + (TAKING, TO_AND_FRO, "trade ;", "if line 1 delete ;"):
            for lines in texts(2):
                answer = at_rest(script, *lines)
                self.assertIn(len(answer), (1, 2))
                if answer[0] == 1:
                    self.stays(script, lines, answer[1])
                elif answer == NOT_YET:
                    came = [coming_again(script, n, *lines) for n in range(11)]
                    self.assertTrue(all(coming(script, *text) != text for text in came), (script, lines))

    def stays(self, script, lines, runs):
        came = [coming_again(script, n, *lines) for n in range(11)]
        self.assertEqual(came[runs:], [came[runs]] * (11 - runs), (script, lines))
        self.assertTrue(all(came[n] != came[n + 1] for n in range(runs)), (script, lines))
        self.assertEqual(coming(script, *came[runs]), came[runs])
        self.assertEqual(after_load(script, rest(as_text(came[runs]))), [1, 0])


if __name__ == "__main__":
    unittest.main()
