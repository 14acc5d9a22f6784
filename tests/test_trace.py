"""Trace: which commands are done on a line (promise 3)."""

import unittest

from tests.deskhelp import SCRIPT, TEXT, after_load, done, load, told, trace

FAR = 10 ** 18


class Worked(unittest.TestCase):
    def test_the_told_lines(self):
        self.assertEqual(after_load(SCRIPT, trace(2, TEXT)), [3, 0, 1, 4])
        self.assertEqual(after_load(SCRIPT, trace(3, TEXT)), [1, 2])

    def test_the_others(self):
        self.assertEqual(after_load(SCRIPT, trace(1, TEXT)), [2, 0, 4])
        self.assertEqual(after_load(SCRIPT, trace(4, TEXT)), [2, 0, 3])


class WhichLine(unittest.TestCase):
    def test_the_first_and_the_last(self):
        self.assertEqual(done("if line 1 keep ; if last stop ;", 1, "a", "b", "c"), [0])
        self.assertEqual(done("if line 1 keep ; if last stop ;", 3, "a", "b", "c"), [1])

    def test_line_24(self):
        self.assertEqual(done("keep ;", 24, *["a"] * 24), [0])

    def test_no_such_line(self):
        for k in (0, 4, -1, 25, FAR, -FAR):
            self.assertEqual(after_load("keep ;", trace(k, "a\nb\nc\n")), [-3], k)

    def test_no_line_at_all(self):
        for k in (0, 1, -1):
            self.assertEqual(after_load("keep ;", trace(k, "")), [-3], k)

    def test_lines_that_come_are_not_counted(self):
        self.assertEqual(after_load("after x ;", trace(2, "a\n")), [-3])

    def test_a_deleted_line_is_a_line(self):
        self.assertEqual(done("delete ;", 1, "a"), [0])


class WhichCommands(unittest.TestCase):
    def test_none(self):
        self.assertEqual(done("", 1, "a"), [])
        self.assertEqual(done("if has b keep ;", 1, "a"), [])

    def test_all_sixteen(self):
        self.assertEqual(done("keep ;" * 16, 1, "a"), list(range(16)))

    def test_just_where_the_address_holds(self):
        script = "if has a keep ; if not has a keep ; if is ab keep ; if line 2 keep ; if from 1 to 2 keep ; if last keep ;"
        self.assertEqual(done(script, 1, "ab", "c"), [0, 2, 4])
        self.assertEqual(done(script, 2, "ab", "c"), [1, 3, 4, 5])

    def test_the_address_is_asked_just_then(self):
        self.assertEqual(done("if is a change b ; if is b change c ; if is b keep ;", 1, "a"), [0, 1])

    def test_a_command_that_changes_nothing_is_done(self):
        self.assertEqual(done("swap x y ; first x y ; trade ;", 1, ""), [0, 1, 2])

    def test_nothing_has_left_it_out(self):
        self.assertEqual(done("skip 1 ; keep ; keep ;", 1, "a"), [0, 2])
        self.assertEqual(done("skip 9 ;" + "keep ;" * 15, 1, "a"), [0, 10, 11, 12, 13, 14, 15])
        self.assertEqual(done("skip 9 ; keep ;", 1, "a"), [0])
        self.assertEqual(done("keep ; skip 9 ;", 1, "a"), [0, 1])

    def test_a_skip_that_is_left_out_leaves_nothing_out(self):
        self.assertEqual(done("skip 1 ; skip 9 ; keep ;", 1, "a"), [0, 2])

    def test_a_skip_that_is_not_done_leaves_nothing_out(self):
        self.assertEqual(done("if has b skip 9 ; keep ;", 1, "a"), [1])

    def test_left_out_ones_count_though_their_address_does_not_hold(self):
        self.assertEqual(done("skip 2 ; if has b keep ; keep ; keep ;", 1, "a"), [0, 3])

    def test_a_skip_behind_a_skip(self):
        self.assertEqual(done("skip 1 ; keep ; skip 2 ; keep ; keep ; keep ;", 1, "a"), [0, 2, 5])

    def test_skip_ends_with_its_line(self):
        self.assertEqual(done("keep ; if line 1 skip 9 ;", 2, "a", "b"), [0])

    def test_no_command_before_has_ended_the_line(self):
        self.assertEqual(done("keep ; delete ; keep ;", 1, "a"), [0, 1])
        self.assertEqual(done("keep ; stop ; keep ;", 1, "a"), [0, 1])
        self.assertEqual(done("if line 1 stop ; keep ;", 2, "a", "b"), [1])
        self.assertEqual(done("if line 1 delete ; keep ;", 2, "a", "b"), [1])

    def test_a_left_out_end_ends_nothing(self):
        self.assertEqual(done("skip 2 ; delete ; stop ; keep ;", 1, "a"), [0, 3])


class Order(unittest.TestCase):
    def test_no_script_ahead_of_all(self):
        self.assertEqual(told(trace(0, "A")), [[-1]])

    def test_no_text_ahead_of_no_such_line(self):
        self.assertEqual(after_load("keep ;", trace(0, "A\n")), [-4])
        self.assertEqual(after_load("keep ;", trace(FAR, "a")), [-4])

    def test_too_much_ahead_of_no_such_line(self):
        self.assertEqual(after_load("swap a bb ;", trace(0, "a" * 9 + "\n")), [-7])
        self.assertEqual(after_load("before x ; after y ;", trace(25, "a\n" * 24)), [-7])

    def test_no_text_ahead_of_too_much(self):
        self.assertEqual(after_load("swap a bb ;", trace(0, "a" * 9 + "\nA\n")), [-4])
        self.assertEqual(after_load("before x ; after y ;", trace(1, "a\n" * 25)), [-4])

    def test_a_refusal_changes_nothing(self):
        right = trace(1, "a\n")
        got = told(load("keep ;"), right, trace(0, "a\n"), trace(1, "a"), right)
        self.assertEqual(got, [[1, 1], [1, 0], [-3], [-4], [1, 0]])


if __name__ == "__main__":
    unittest.main()
