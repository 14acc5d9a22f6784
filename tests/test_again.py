"""Again: a text is run again with what comes (promise 4)."""

import unittest

from tests.deskhelp import (
    SCRIPT, TEXT, after_load, again, as_text, coming, coming_again, load, run, told,
)
from tests.test_runs import SCRIPTS, texts

FAR = 10 ** 18
LINES_24 = ["a"] * 24
GROWING = "if last after x ;"


def counting_down(most):
    """Each run takes an a from each line; a line without one has lines put behind it."""
    return f"if has a skip 2 ; after x ; if from 1 to {most} after y ; first a none ;"


class Worked(unittest.TestCase):
    def test_of_no_run(self):
        answer = after_load(SCRIPT, again(0, TEXT))
        self.assertEqual(answer, [4, 11, 120, 97, 10, 99, 97, 10, 99, 10, 97, 97, 10])

    def test_of_one_run(self):
        self.assertEqual(after_load(SCRIPT, again(1, TEXT)), after_load(SCRIPT, run(TEXT)))


class HowOften(unittest.TestCase):
    def test_of_no_run_the_text_itself(self):
        for script in ("", "delete ;", "change x ; before y ;", SCRIPT):
            self.assertEqual(coming_again(script, 0, "a", "", "b"), ["a", "", "b"], script)

    def test_from_1_to_10(self):
        for n in range(11):
            self.assertEqual(coming_again("first a none ;", n, "a" * 12), ["a" * (12 - n)])
            self.assertEqual(coming_again(GROWING, n, "a"), ["a"] + ["x"] * n)

    def test_of_10_runs(self):
        script = "if not line 1 stop ; change b ; trade ; bring ;"
        self.assertEqual(coming_again(script, 10, ""), [""] + ["b"] * 10)

    def test_not_from_0_to_10(self):
        for script in ("", "first a none ;", "before x ; before y ;"):
            for n in (-1, 11, -2, 12, 1000, -1000, FAR, -FAR):
                self.assertEqual(after_load(script, again(n, "a\n")), [-3], n)
                self.assertEqual(after_load(script, again(n, "")), [-3], n)

    def test_a_text_of_no_lines(self):
        for n in (0, 1, 10):
            self.assertEqual(after_load("before x ; after y ;", again(n, "")), [0, 0])

    def test_a_text_that_comes_to_no_lines(self):
        for n in (1, 2, 10):
            self.assertEqual(after_load("delete ;", again(n, "a\nb\n")), [0, 0])

    def test_each_run_begins_with_what_came(self):
        self.assertEqual(coming_again("if line 2 delete ; before x ;", 1, "a", "b"), ["x", "a"])
        self.assertEqual(coming_again("if line 2 delete ; before x ;", 2, "a", "b"), ["x", "x"])
        self.assertEqual(coming_again("if last change l ; after m ;", 2, "a"), ["l", "m", "l", "m"])

    def test_each_run_begins_without_letters_held(self):
        self.assertEqual(coming_again("trade ;", 1, "a", "b", "c"), ["", "a", "b"])
        self.assertEqual(coming_again("trade ;", 2, "a", "b", "c"), ["", "", "a"])
        self.assertEqual(coming_again("trade ;", 3, "a", "b", "c"), ["", "", ""])

    def test_to_and_fro(self):
        script = "if is a change c ; if is b change a ; if is c change b ;"
        for n in range(11):
            self.assertEqual(coming_again(script, n, "a"), ["a" if n % 2 == 0 else "b"])


class TooMuchOnTheWay(unittest.TestCase):
    def refused(self, script, n, *lines):
        self.assertEqual(after_load(script, again(n, as_text(lines))), [-7], (script, n))

    def test_no_run_is_never_too_much(self):
        self.assertEqual(coming_again("before x ; after y ;", 0, *LINES_24), LINES_24)
        self.assertEqual(coming_again("swap a bb ;", 0, "a" * 16), ["a" * 16])
        self.refused("before x ; after y ;", 1, *LINES_24)
        self.refused("swap a bb ;", 1, "a" * 16)

    def test_24_lines_come_and_are_run_further(self):
        lines = ["a"] * 23
        self.assertEqual(coming_again(GROWING, 1, *lines), lines + ["x"])
        self.assertEqual(coming_again(GROWING, 2, *lines), lines + ["x", "x"])

    def test_25_lines_come_of_the_last_run(self):
        self.assertEqual(coming_again(GROWING, 1, *LINES_24), LINES_24 + ["x"])
        self.assertEqual(coming_again(GROWING, 10, *["a"] * 15), ["a"] * 15 + ["x"] * 10)

    def test_25_lines_come_and_are_run_further(self):
        self.refused(GROWING, 2, *LINES_24)
        self.refused(GROWING, 3, *["a"] * 23)
        self.refused(GROWING, 10, *["a"] * 16)
        for n in range(2, 11):
            self.refused("if is x delete ; if last after x ;", n, *LINES_24)

    def test_25_lines_are_too_much_though_a_further_run_would_leave_none(self):
        script = "if is b delete ; change b ; if last after b ;"
        self.assertEqual(coming_again(script, 2, *["a"] * 23), [])
        self.assertEqual(coming_again(script, 1, *LINES_24), ["b"] * 25)
        self.refused(script, 2, *LINES_24)

    def test_60_lines_come_in_the_last_run(self):
        script = "after x ; if from 1 to 12 after y ;"
        self.assertEqual(len(coming_again(script, 1, *LINES_24)), 60)
        self.refused(script, 2, *LINES_24)

    def test_61_lines_come_in_the_last_run(self):
        self.refused("after x ; if from 1 to 13 after y ;", 1, *LINES_24)

    def test_60_and_61_lines_come_in_the_tenth_run(self):
        lines = ["a" * 9] * 24
        self.assertEqual(coming_again(counting_down(12), 9, *lines), [""] * 24)
        self.assertEqual(len(coming_again(counting_down(12), 10, *lines)), 60)
        self.assertEqual(coming_again(counting_down(13), 9, *lines), [""] * 24)
        self.refused(counting_down(13), 10, *lines)

    def test_a_line_of_17_letters(self):
        script = "first a aa ;"
        self.assertEqual(coming_again(script, 10, "a" * 6), ["a" * 16])
        self.refused(script, 10, "a" * 7)
        self.assertEqual(coming_again(script, 9, "a" * 7), ["a" * 16])
        self.refused("first a aa ; if has aaaaaaaa change b ;", 3, "a" * 16)


class Order(unittest.TestCase):
    def test_no_script_ahead_of_all(self):
        for n in (0, 11, -FAR):
            self.assertEqual(told(again(n, "A")), [[-1]])

    def test_no_text_ahead_of_how_often(self):
        for n in (0, 1, -1, 11, FAR):
            for text in ("A\n", "a", "a" * 17 + "\n", "a\n" * 25):
                self.assertEqual(after_load("before x ;", again(n, text)), [-4], (n, text))

    def test_how_often_ahead_of_too_much(self):
        for n in (-1, 11, FAR, -FAR):
            self.assertEqual(after_load("before x ; after y ;", again(n, "a\n" * 24)), [-3])
            self.assertEqual(after_load("swap a bb ;", again(n, "a" * 16 + "\n")), [-3])

    def test_no_text_ahead_of_too_much(self):
        self.assertEqual(after_load("swap a bb ;", again(1, "a" * 9 + "\nA\n")), [-4])

    def test_a_refusal_changes_nothing(self):
        right = again(2, "a\n")
        got = told(load(GROWING), right, again(11, "a\n"), again(2, "a"), again(2, "a\n" * 24), right)
        expected = [3, 6, 97, 10, 120, 10, 120, 10]
        self.assertEqual(got[1:], [expected, [-3], [-4], [-7], expected])


class Promise4(unittest.TestCase):
    def test_a_text_is_run_again_with_what_comes(self):
        for script in SCRIPTS:
            for lines in texts(2):
                self.check(script, lines)

    def check(self, script, lines):
        """Runs one by one, as run tells them, until one is refused or has come to too many lines."""
        text = lines
        for n in range(11):
            self.assertEqual(coming_again(script, n, *lines), text, (script, lines, n))
            ran = after_load(script, run(as_text(text)))
            if ran[0] < 0:
                later = [after_load(script, again(further, as_text(lines))) for further in range(n + 1, 11)]
                self.assertEqual(later, [[-7]] * (10 - n), (script, lines))
                return
            text = coming(script, *text)


if __name__ == "__main__":
    unittest.main()
