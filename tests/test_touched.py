"""Touched: what comes of each line of the text, and what is put beside it (promises 1 to 3)."""

import unittest

from tests.deskhelp import (
    SCRIPT, TEXT, after_load, as_text, came_from, coming, done, load, told, touched, touches,
)
from tests.test_runs import SCRIPTS, texts

AS_IT_WAS, OTHERWISE, NOT = 0, 1, 2


class Worked(unittest.TestCase):
    def test_the_told_lines(self):
        self.assertEqual(after_load(SCRIPT, touched(TEXT)), [4, 1, 0, 1, 1, 0, 1, 2, 0, 0, 1, 0, 1])


class WhatComes(unittest.TestCase):
    def state(self, script, line):
        return touches(script, line)[0][0]

    def test_a_text_of_no_lines(self):
        for script in ("", "delete ;", "before x ; after y ;", SCRIPT):
            self.assertEqual(after_load(script, touched("")), [0], script)

    def test_a_line_as_it_was(self):
        for script in ("", "keep ;", "bring ;", "before x ;", "stop ; change x ;", "skip 1 ; change x ;"):
            self.assertEqual(self.state(script, "a"), AS_IT_WAS, script)

    def test_a_line_changed_to_itself(self):
        for script in ("change a ;", "swap a a ;", "first a a ;", "keep ; trade ;", "swap b c ;", "first b none ;"):
            self.assertEqual(self.state(script, "a"), AS_IT_WAS, script)

    def test_a_line_changed_and_changed_back(self):
        for script in ("change x ; change a ;", "swap a bb ; swap bb a ;", "trade ; trade ;", "keep ; change x ; trade ;"):
            self.assertEqual(self.state(script, "a"), AS_IT_WAS, script)

    def test_a_line_changed(self):
        for script in ("change x ;", "swap a b ;", "first a none ;", "trade ;", "change x ; stop ; change a ;"):
            self.assertEqual(self.state(script, "a"), OTHERWISE, script)
        self.assertEqual(self.state("swap ab ba ;", "ab"), OTHERWISE)

    def test_a_deleted_line(self):
        self.assertEqual(self.state("delete ;", "a"), NOT)

    def test_a_deleted_line_that_was_changed_before(self):
        for script in ("change x ; delete ;", "trade ; delete ;", "change x ; change a ; delete ; change y ;"):
            self.assertEqual(self.state(script, "a"), NOT, script)

    def test_a_delete_that_is_not_done(self):
        for script in ("if has b delete ;", "stop ; delete ;", "skip 1 ; delete ;"):
            self.assertEqual(self.state(script, "a"), AS_IT_WAS, script)

    def test_a_line_without_letters(self):
        self.assertEqual(self.state("", ""), AS_IT_WAS)
        self.assertEqual(self.state("trade ;", ""), AS_IT_WAS)
        self.assertEqual(self.state("change x ;", ""), OTHERWISE)
        self.assertEqual(self.state("delete ;", ""), NOT)

    def test_a_line_that_loses_its_letters(self):
        self.assertEqual(self.state("swap a none ;", "aa"), OTHERWISE)

    def test_a_line_put_that_is_alike_is_not_the_line(self):
        self.assertEqual(touches("before a ; delete ;", "a"), [(NOT, 1, 0)])
        self.assertEqual(touches("keep ; bring ; change x ;", "a"), [(OTHERWISE, 0, 1)])

    def test_each_line_is_told_by_itself(self):
        script = "if is b change x ; if is c delete ;"
        self.assertEqual(touches(script, "a", "b", "c", "a"), [(0, 0, 0), (1, 0, 0), (2, 0, 0), (0, 0, 0)])

    def test_a_line_that_came_from_another(self):
        self.assertEqual(touches("trade ;", "", "a", "a"), [(0, 0, 0), (1, 0, 0), (0, 0, 0)])


class HowManyArePut(unittest.TestCase):
    def test_ahead_and_behind(self):
        self.assertEqual(touches("before x ;", "a"), [(0, 1, 0)])
        self.assertEqual(touches("after x ;", "a"), [(0, 0, 1)])
        self.assertEqual(touches("bring ;", "a"), [(0, 0, 1)])
        self.assertEqual(touches("before x ; before x ; after y ; bring ; after z ;", "a"), [(0, 2, 3)])

    def test_beside_a_deleted_line(self):
        self.assertEqual(touches("before x ; before y ; after z ; delete ;", "a"), [(2, 2, 1)])
        self.assertEqual(touches("before x ; delete ; before y ; after z ;", "a"), [(2, 1, 0)])
        self.assertEqual(touches("bring ; delete ;", "a"), [(2, 0, 1)])

    def test_for_each_line_by_itself(self):
        script = "if line 1 before x ; if last after y ; if line 2 delete ;"
        self.assertEqual(touches(script, "a", "b", "c"), [(0, 1, 0), (2, 0, 0), (0, 0, 1)])

    def test_the_most_lines(self):
        self.assertEqual(touches("", *["a"] * 24), [(0, 0, 0)] * 24)
        script = "before x ; if from 1 to 12 after y ;"
        self.assertEqual(touches(script, *["a"] * 24), [(0, 1, 1)] * 12 + [(0, 1, 0)] * 12)
        self.assertEqual(touches("before x ;" * 15, *["a"] * 3), [(0, 15, 0)] * 3)


class Refused(unittest.TestCase):
    def test_too_much(self):
        self.assertEqual(after_load("swap a bb ;", touched("a" * 9 + "\n")), [-7])
        self.assertEqual(after_load("first a bb ; change x ;", touched("b\n" + "a" * 16 + "\n")), [-7])
        self.assertEqual(after_load("before x ; after y ;", touched("a\n" * 21)), [-7])
        self.assertEqual(after_load("before x ;" * 15, touched("a\n" * 4)), [-7])

    def test_no_text_ahead_of_too_much(self):
        self.assertEqual(after_load("swap a bb ;", touched("a" * 9 + "\nA\n")), [-4])
        self.assertEqual(after_load("before x ; after y ;", touched("a\n" * 25)), [-4])

    def test_one_call_does_not_touch_the_next(self):
        got = told(load("trade ;"), touched("a\n"), touched("a\n"), touched("A\n"), touched("\n"))
        self.assertEqual(got[1:], [[1, 1, 0, 0], [1, 1, 0, 0], [-4], [1, 0, 0, 0]])


class Promise1(unittest.TestCase):
    def test_it_tells_what_run_and_origins_tell(self):
        for script in SCRIPTS:
            for lines in texts(3):
                self.assertEqual(touches(script, *lines), self.seen(script, lines), (script, lines))

    def seen(self, script, lines):
        own = [[pair for pair in zip(coming(script, *lines), came_from(script, *lines)) if pair[1][0] == number]
               for number in range(1, len(lines) + 1)]
        return [self.seen_of(line, pairs, script) for line, pairs in zip(lines, own)]

    def seen_of(self, line, pairs, script):
        deeds = [command.split(" ") for command in script.split(" ;")]
        ahead = [pair for pair in pairs if pair[1][1] >= 0 and "before" in deeds[pair[1][1]]]
        itself = [made for made, origin in pairs if origin[1] == -1]
        state = NOT if not itself else AS_IT_WAS if itself == [line] else OTHERWISE
        return (state, len(ahead), len(pairs) - len(ahead) - len(itself))


class Promise2(unittest.TestCase):
    def test_lines_behind_count_only_by_whether_there_are_any(self):
        for script in SCRIPTS:
            for lines in texts(2):
                count = len(lines)
                alike = touches(script, *lines, "a")[:count]
                self.assertEqual(touches(script, *lines, "b", "", "ab")[:count], alike)

    def test_whether_there_are_any_behind_counts(self):
        self.assertEqual(touches("if last delete ;", "a")[0], (2, 0, 0))
        self.assertEqual(touches("if last delete ;", "a", "b")[0], (0, 0, 0))

    def test_lines_before_count_only_by_the_held_line_and_how_many_they_are(self):
        for script in SCRIPTS:
            held_a = "if from 1 to 2 change a ; if from 1 to 2 keep ; if from 1 to 2 delete ; " + script
            for lines in texts(2):
                alike = touches(held_a, "", "b", *lines)[2:]
                for before in (["b", ""], ["ab", "ca"], ["a", "a"]):
                    self.assertEqual(touches(held_a, *before, *lines)[2:], alike)

    def test_the_held_line_and_how_many_they_are_count(self):
        self.assertEqual(touches("trade ; if is a delete ;", "a", "b")[1], (2, 0, 0))
        self.assertEqual(touches("trade ; if is a delete ;", "c", "b")[1], (1, 0, 0))
        self.assertEqual(touches("if line 2 before x ;", "b")[0], (0, 0, 0))
        self.assertEqual(touches("if line 2 before x ;", "a", "b")[1], (0, 1, 0))


class Promise3(unittest.TestCase):
    def test_what_is_told_is_what_trace_says_is_done(self):
        script = "if has a before x ; if last skip 2 ; if is b stop ; after y ; if not line 2 bring ; if is c delete ;"
        for lines in texts(2) + [["c"], ["c", "c"], ["a", "c", "b"]]:
            for number, (state, ahead, behind) in enumerate(touches(script, *lines), start=1):
                was_done = done(script, number, *lines)
                self.assertEqual(ahead, was_done.count(0))
                self.assertEqual(behind, was_done.count(3) + was_done.count(4))
                self.assertEqual(state, NOT if 5 in was_done else AS_IT_WAS)

    def test_no_command_behind_the_end_of_the_line_is_done(self):
        for end, state in (("stop ;", AS_IT_WAS), ("delete ;", NOT)):
            script = "before x ; " + end + " change y ; before x ; after x ; bring ;"
            self.assertEqual(touches(script, "a", "b"), [(state, 1, 0)] * 2)

    def test_what_is_left_out_is_not_done(self):
        self.assertEqual(touches("skip 3 ; change x ; before x ; delete ; after x ;", "a"), [(0, 0, 1)])

    def test_just_where_the_address_holds(self):
        script = "if has a after x ; if not has a before y ; if line 2 change z ; if last delete ;"
        self.assertEqual(touches(script, "a", "b", "ca"), [(0, 0, 1), (1, 1, 0), (2, 0, 1)])
        self.assertEqual(after_load(script, touched(as_text([]))), [0])


if __name__ == "__main__":
    unittest.main()
