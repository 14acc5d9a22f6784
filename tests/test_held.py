"""Held: the held line at the end of a run (promise 2)."""

import unittest

from tests.deskhelp import SCRIPT, TEXT, after_load, coming, held, held_at_end, load, told
from tests.test_runs import SCRIPTS, texts

A16 = "a" * 16


class Worked(unittest.TestCase):
    def test_the_told_line(self):
        self.assertEqual(after_load(SCRIPT, held(TEXT)), [3, 99, 98, 98])


class WithoutLetters(unittest.TestCase):
    def test_a_text_of_no_lines(self):
        for script in ("", "keep ;", "trade ;", "change x ; keep ;", SCRIPT):
            self.assertEqual(after_load(script, held("")), [0], script)

    def test_no_keep_or_trade_is_there(self):
        self.assertEqual(after_load("", held("a\nb\n")), [0])
        self.assertEqual(after_load("change x ; bring ; before y ; after z ;", held("a\nb\n")), [0])

    def test_no_keep_or_trade_is_done(self):
        for script in ("if has x keep ;", "skip 2 ; keep ; trade ;", "stop ; keep ;", "delete ; trade ;",
                       "if line 3 keep ;", "if not all trade ;"):
            self.assertEqual(after_load(script, held("a\nb\n")), [0], script)

    def test_a_line_without_letters_is_kept(self):
        self.assertEqual(held_at_end("keep ;", "a", ""), "")
        self.assertEqual(held_at_end("keep ; if last swap a none ; if last keep ;", "b", "aa"), "")


class Kept(unittest.TestCase):
    def test_the_last_keep_counts(self):
        self.assertEqual(held_at_end("keep ;", "a", "b", "c"), "c")
        self.assertEqual(held_at_end("if line 2 keep ;", "a", "b", "c"), "b")
        self.assertEqual(held_at_end("keep ; change x ; keep ; change y ;", "a"), "x")

    def test_the_line_as_it_was_by_then(self):
        self.assertEqual(held_at_end("keep ; change x ;", "a"), "a")
        self.assertEqual(held_at_end("swap a bb ; keep ; change x ;", "aca"), "bbcbb")

    def test_a_keep_ahead_of_a_delete(self):
        self.assertEqual(held_at_end("keep ; delete ;", "a", "b"), "b")
        self.assertEqual(held_at_end("if last keep ; if last delete ; change x ;", "a", "b"), "b")
        self.assertEqual(held_at_end("keep ; if line 1 delete ; keep ;", "a"), "a")

    def test_a_keep_behind_a_delete_is_not_done(self):
        self.assertEqual(held_at_end("if last delete ; keep ;", "a", "b"), "a")

    def test_a_keep_ahead_of_a_stop(self):
        self.assertEqual(held_at_end("keep ; stop ; trade ;", "a", "b"), "b")

    def test_bring_leaves_the_held_line(self):
        self.assertEqual(held_at_end("if line 1 keep ; bring ; bring ;", "a", "b"), "a")

    def test_16_letters(self):
        self.assertEqual(held_at_end("keep ;", A16), A16)
        self.assertEqual(held_at_end("swap a bb ; keep ;", "a" * 8), "b" * 16)


class Traded(unittest.TestCase):
    def test_on_the_last_line(self):
        self.assertEqual(held_at_end("if last trade ;", "a", "b"), "b")
        self.assertEqual(held_at_end("trade ;", "a", "b", "c"), "c")
        self.assertEqual(held_at_end("if line 1 keep ; if last trade ; change x ;", "a", "b"), "b")

    def test_twice_on_the_last_line(self):
        self.assertEqual(held_at_end("trade ; if last trade ;", "a", "b"), "a")

    def test_the_line_traded_as_it_was_by_then(self):
        self.assertEqual(held_at_end("change x ; trade ; change y ;", "a"), "x")

    def test_ahead_of_a_delete(self):
        self.assertEqual(held_at_end("trade ; delete ;", "a", "b"), "b")

    def test_held_lines_trade_with_a_deleted_line_between(self):
        self.assertEqual(held_at_end("if line 2 delete ; trade ;", "a", "b", "c"), "c")
        self.assertEqual(coming("if line 2 delete ; trade ;", "a", "b", "c"), ["", "a"])


class Refused(unittest.TestCase):
    def test_too_much(self):
        self.assertEqual(after_load("keep ; swap a bb ;", held("a" * 9 + "\n")), [-7])
        self.assertEqual(after_load("keep ; first a bb ; delete ;", held("b\n" + A16 + "\n")), [-7])
        self.assertEqual(after_load("keep ; before x ; after y ;", held("a\n" * 21)), [-7])

    def test_not_too_much_just_then(self):
        self.assertEqual(held_at_end("keep ; before x ; after y ;", *["a"] * 20), "a")

    def test_no_text_ahead_of_too_much(self):
        self.assertEqual(after_load("swap a bb ;", held("a" * 9 + "\nA\n")), [-4])
        self.assertEqual(after_load("before x ; after y ;", held("a\n" * 25)), [-4])

    def test_the_next_run_begins_without_it(self):
        got = told(load("bring ; if line 1 keep ;"), held("a\n"), held(""), held("b\n"), held("A\n"), held(""))
        self.assertEqual(got[1:], [[1, 97], [0], [1, 98], [-4], [0]])


class Promise2(unittest.TestCase):
    def test_it_is_what_a_further_line_would_bring(self):
        for script in SCRIPTS:
            for lines in [lines for lines in texts(3) if len(lines) == 3]:
                bringing = "if line 4 bring ; if line 4 stop ; " + script.replace("last", "line 3")
                brought = coming(bringing, *lines, "z")[-1]
                self.assertEqual(held_at_end(script, *lines), brought, (script, lines))

    def test_lines_before_count_only_by_the_held_line_and_how_many_they_are(self):
        for script in SCRIPTS:
            held_a = "if from 1 to 2 change a ; if from 1 to 2 keep ; if from 1 to 2 delete ; " + script
            for lines in texts(2):
                alike = held_at_end(held_a, "", "b", *lines)
                for before in (["b", ""], ["ab", "ca"], ["a", "a"]):
                    self.assertEqual(held_at_end(held_a, *before, *lines), alike)

    def test_how_many_they_are_counts(self):
        self.assertEqual(held_at_end("if line 2 keep ;", "b", "c"), "c")
        self.assertEqual(held_at_end("if line 2 keep ;", "a", "b", "c"), "b")

    def test_whether_there_are_any_behind_counts(self):
        self.assertEqual(held_at_end("if not last keep ;", "a"), "")
        self.assertEqual(held_at_end("if not last keep ;", "a", "b"), "a")


if __name__ == "__main__":
    unittest.main()
