"""Runs: what each deed does, what comes, what is too much (run, origins; promises 1 and 2)."""

import unittest

from tests.deskhelp import SCRIPT, after_load, as_text, came_from, coming, done, load, origins, run, told, trace

A16 = "a" * 16


class Worked(unittest.TestCase):
    def test_run(self):
        self.assertEqual(coming(SCRIPT, "xa", "ca", "c", "aa"), ["xbb", "z", "cbb", "z", "bbbb", "cbb"])

    def test_origins(self):
        pairs = [(1, -1), (1, 4), (2, -1), (2, 4), (4, -1), (4, 3)]
        self.assertEqual(came_from(SCRIPT, "xa", "ca", "c", "aa"), pairs)


class Deeds(unittest.TestCase):
    def test_no_command_and_no_line(self):
        self.assertEqual(coming("", "a", "", "b"), ["a", "", "b"])
        self.assertEqual(came_from("", "a", "", "b"), [(1, -1), (2, -1), (3, -1)])
        self.assertEqual(coming("before x ; after y ;"), [])
        self.assertEqual(came_from("before x ; after y ;"), [])

    def test_delete(self):
        self.assertEqual(coming("if has a delete ;", "a", "b", "ca"), ["b"])
        self.assertEqual(coming("delete ;", "a", "b"), [])

    def test_delete_leaves_lines_put_ahead_and_behind(self):
        script = "before x ; after y ; if has a delete ; after z ;"
        self.assertEqual(coming(script, "a", "b"), ["x", "y", "x", "b", "y", "z"])
        self.assertEqual(came_from(script, "a", "b"), [(1, 0), (1, 1), (2, 0), (2, -1), (2, 1), (2, 3)])

    def test_delete_ends_the_line(self):
        self.assertEqual(coming("delete ; before x ; keep ;", "a"), [])
        self.assertEqual(coming("if line 1 delete ; bring ; keep ;", "a", "b"), ["b", ""])

    def test_stop_ends_the_line_and_it_comes(self):
        script = "change b ; if line 1 stop ; after x ; delete ;"
        self.assertEqual(coming(script, "a", "a"), ["b", "x"])

    def test_before_puts_behind_those_put_ahead_already(self):
        self.assertEqual(coming("before x ; before y ; before z ;", "a"), ["x", "y", "z", "a"])

    def test_after_puts_behind_those_put_behind_already(self):
        self.assertEqual(coming("after x ; after y ; after z ;", "a"), ["a", "x", "y", "z"])

    def test_lines_put_are_not_changed_by_later_commands(self):
        self.assertEqual(coming("before a ; after a ; swap a b ;", "a"), ["a", "b", "a"])

    def test_change(self):
        self.assertEqual(coming("change abcdefgh ;", "", "x", A16), ["abcdefgh"] * 3)

    def test_change_is_seen_by_later_commands(self):
        self.assertEqual(coming("change x ; if is x after y ;", "a"), ["x", "y"])

    def test_keep_and_bring_over_lines(self):
        self.assertEqual(coming("bring ; keep ;", "a", "b", "c"), ["a", "", "b", "a", "c", "b"])

    def test_keep_takes_the_line_as_it_is_by_now(self):
        self.assertEqual(coming("change x ; keep ; change y ; bring ;", "a"), ["y", "x"])

    def test_bring_brings_the_held_line_as_it_is_by_now(self):
        self.assertEqual(coming("bring ; keep ; bring ; change x ; keep ; bring ;", "a"), ["x", "", "a", "x"])

    def test_bring_puts_behind_those_put_behind_already(self):
        self.assertEqual(coming("keep ; after x ; bring ; after y ;", "a"), ["a", "x", "a", "y"])

    def test_trade_over_lines(self):
        self.assertEqual(coming("trade ;", "a", "b", "c"), ["", "a", "b"])
        self.assertEqual(coming("trade ; trade ;", "a", "b"), ["a", "b"])
        self.assertEqual(coming("trade ; bring ;", "a", "b"), ["", "a", "a", "b"])

    def test_the_held_line_has_no_letters_at_first(self):
        self.assertEqual(coming("bring ;", "a"), ["a", ""])
        self.assertEqual(coming("trade ; if is x stop ; if not has a after e ;", "a"), ["", "e"])

    def test_the_held_line_goes_over_a_deleted_line(self):
        self.assertEqual(coming("if is b delete ; bring ; keep ;", "a", "b", "c"), ["a", "", "c", "a"])

    def test_a_run_does_not_begin_with_the_held_line_of_another(self):
        _, first, second = told(load("bring ; keep ;"), run("a\n"), run("a\n"))
        self.assertEqual((first, second), ([2, 3, 97, 10, 10], [2, 3, 97, 10, 10]))

    def test_skip(self):
        self.assertEqual(coming("skip 2 ; after x ; after y ; after z ;", "a"), ["a", "z"])

    def test_skip_over_the_end_of_the_commands(self):
        self.assertEqual(coming("before x ; skip 9 ; after y ;", "a", "b"), ["x", "a", "x", "b"])

    def test_skip_leaves_out_whatever_they_are(self):
        self.assertEqual(coming("skip 1 ; skip 9 ; after x ;", "a"), ["a", "x"])
        self.assertEqual(coming("skip 1 ; delete ; after x ;", "a"), ["a", "x"])
        self.assertEqual(coming("skip 1 ; if has z after y ; after x ;", "a"), ["a", "x"])

    def test_skip_is_on_its_line_alone(self):
        self.assertEqual(coming("after x ; after y ; if line 1 skip 9 ;", "a", "b"), ["a", "x", "y", "b", "x", "y"])


class SwapAndFirst(unittest.TestCase):
    def test_swap_goes_from_the_left_without_overlapping(self):
        self.assertEqual(coming("swap aa b ;", "aaaaa", "aaxaa", "a"), ["bba", "bxb", "a"])
        self.assertEqual(coming("swap aba x ;", "ababa", "abaaba"), ["xba", "xx"])

    def test_swap_does_not_read_what_it_wrote(self):
        self.assertEqual(coming("swap a ab ;", "aba"), ["abbab"])
        self.assertEqual(coming("swap ab b ;", "aab"), ["ab"])

    def test_first_is_the_first_alone(self):
        self.assertEqual(coming("first a bb ;", "xaa", "b"), ["xbba", "b"])
        self.assertEqual(coming("first aa b ;", "aaaa"), ["baa"])

    def test_none(self):
        self.assertEqual(coming("swap a none ;", "abab", "a", "b"), ["bb", "", "b"])
        self.assertEqual(coming("first a none ;", "baba", "a"), ["bba", ""])

    def test_16_letters(self):
        self.assertEqual(coming("swap a bb ;", "aaaaaaaa"), ["b" * 16])
        self.assertEqual(coming("first a bb ;", "a" * 15), ["bb" + "a" * 14])
        self.assertEqual(coming("swap a b ;", A16), ["b" * 16])

    def test_17_letters_are_too_much(self):
        for call in (run, origins, lambda text: trace(1, text)):
            self.assertEqual(after_load("swap a bb ;", call("aaaaaaaab\n")), [-7])
            self.assertEqual(after_load("first a bb ;", call(A16 + "\n")), [-7])

    def test_17_letters_are_too_much_though_they_do_not_come(self):
        for behind in ("delete ;", "change x ;", "swap b none ;", "trade ;"):
            self.assertEqual(after_load("first a bb ; " + behind, run(A16 + "\n")), [-7], behind)

    def test_17_letters_on_any_line_are_too_much(self):
        self.assertEqual(after_load("first a bb ;", trace(1, "a\n" + A16 + "\n")), [-7])

    def test_it_is_not_too_much_where_the_command_is_not_done(self):
        self.assertEqual(coming("if line 2 first a bb ;", A16), [A16])
        self.assertEqual(coming("skip 1 ; first a bb ;", A16), [A16])
        self.assertEqual(coming("first b cc ;", A16), [A16])


class Addresses(unittest.TestCase):
    def marked(self, address, *lines):
        """The numbers of the lines on which a command with this address is done."""
        return [number for number, command in came_from("if " + address + " after x ;", *lines) if command == 0]

    def test_all(self):
        self.assertEqual(self.marked("all", "a", "", "b"), [1, 2, 3])

    def test_line(self):
        self.assertEqual(self.marked("line 2", "a", "b", "c"), [2])
        self.assertEqual(self.marked("line 4", "a", "b", "c"), [])

    def test_the_last_line_there_can_be(self):
        self.assertEqual(self.marked("line 24", *["a"] * 24), [24])
        self.assertEqual(self.marked("line 99", *["a"] * 24), [])

    def test_from(self):
        self.assertEqual(self.marked("from 2 to 3", "a", "b", "c", "d"), [2, 3])
        self.assertEqual(self.marked("from 3 to 3", "a", "b", "c", "d"), [3])
        self.assertEqual(self.marked("from 3 to 99", "a", "b", "c", "d"), [3, 4])

    def test_last(self):
        self.assertEqual(self.marked("last", "a", "b", "c"), [3])
        self.assertEqual(self.marked("last", "a"), [1])

    def test_has(self):
        self.assertEqual(self.marked("has ab", "ab", "xaby", "ba", "a", "", "axb", "aab"), [1, 2, 7])

    def test_is(self):
        self.assertEqual(self.marked("is ab", "ab", "abc", "cab", "ba", ""), [1])

    def test_not(self):
        self.assertEqual(self.marked("not last", "a", "b", "c"), [1, 2])
        self.assertEqual(self.marked("not not last", "a", "b", "c"), [3])
        self.assertEqual(self.marked("not not not last", "a", "b", "c"), [1, 2])
        self.assertEqual(self.marked("not all", "a", "b"), [])

    def test_lines_put_are_not_numbered_and_are_not_the_last(self):
        self.assertEqual(coming("before x ; after y ; if line 2 change n ; if last change l ;", "a", "b", "c"),
                         ["x", "a", "y", "x", "n", "y", "x", "l", "y"])

    def test_the_line_is_seen_as_it_is_by_now(self):
        self.assertEqual(coming("swap a b ; if has a delete ; if is bb after x ;", "aa", "a"), ["bb", "x", "b"])
        self.assertEqual(coming("trade ; if is a after x ;", "a", "b"), ["", "a", "x"])


class HowManyCome(unittest.TestCase):
    def test_60_lines(self):
        script = "after x ; if from 1 to 12 after y ;"
        self.assertEqual(len(coming(script, *["a"] * 24)), 60)

    def test_61_lines_are_too_much(self):
        script = "after x ; if from 1 to 13 after y ;"
        for call in (run, origins, lambda text: trace(1, text)):
            self.assertEqual(after_load(script, call("a\n" * 24)), [-7])

    def test_each_way_to_put_lines_counts(self):
        for deed in ("before x ;", "after x ;", "bring ;"):
            script = deed + " if from 1 to 12 " + deed
            self.assertEqual(len(coming(script, *["a"] * 24)), 60)
            self.assertEqual(after_load(script + " if last " + deed, run("a\n" * 24)), [-7], deed)

    def test_deleted_lines_do_not_count(self):
        script = "after x ; if from 1 to 13 after y ; if line 20 delete ;"
        self.assertEqual(len(coming(script, *["a"] * 24)), 60)

    def test_far_too_much(self):
        self.assertEqual(after_load("before x ;" * 16, run("a\n" * 24)), [-7])


SCRIPTS = (
    SCRIPT,
    "before x ; if has a delete ; after y ; trade ;",
    "if not last trade ; bring ; if from 2 to 3 stop ; swap a none ; before w ;",
    "if is a skip 1 ; keep ; bring ; if last after z ; first b aa ;",
    "if line 1 keep ; if not not has b trade ; if not has a before q ;",
)
LINES = ("", "a", "b", "ab", "ca")


def texts(most):
    """All texts of lines of LINES, up to so many."""
    found = [[]]
    for begin in range(most):
        found += [lines + [line] for lines in found if len(lines) == begin for line in LINES]
    return found


class Promise1(unittest.TestCase):
    def test_each_line_that_comes_comes_with_one_line_in_order(self):
        for script in SCRIPTS:
            for lines in texts(3):
                self.check(script, lines)

    def check(self, script, lines):
        came = coming(script, *lines)
        pairs = came_from(script, *lines)
        self.assertEqual(len(pairs), len(came))
        self.assertEqual([number for number, _ in pairs], sorted(number for number, _ in pairs))
        commands = script.replace(" ;", "").count(" ")
        for number in range(1, len(lines) + 1):
            own = [command for line, command in pairs if line == number]
            self.assertLessEqual(own.count(-1), 1)
            was_done = done(script, number, *lines)
            for command in own:
                self.assertTrue(command == -1 or command in was_done, (script, lines))
        self.assertTrue(all(-1 <= command < commands for _, command in pairs))

    def test_a_line_put_is_what_its_command_told(self):
        script = "before x ; after y ; keep ; before z ; bring ; delete ;"
        for lines in texts(2):
            pairs = came_from(script, *lines)
            put = {0: "x", 1: "y", 3: "z"}
            for line, (number, command) in zip(coming(script, *lines), pairs):
                self.assertEqual(line, lines[number - 1] if command == 4 else put[command])

    def test_a_line_no_command_put_is_the_line_as_it_was_made(self):
        script = "before x ; swap a bb ; after y ;"
        for lines in texts(3):
            made = [line for line, pair in zip(coming(script, *lines), came_from(script, *lines)) if pair[1] == -1]
            self.assertEqual(made, [line.replace("a", "bb") for line in lines])


class Promise2(unittest.TestCase):
    def of_line(self, script, k, lines):
        pairs = came_from(script, *lines)
        came = coming(script, *lines)
        return done(script, k, *lines), [(line, pair[1]) for line, pair in zip(came, pairs) if pair[0] == k]

    def test_lines_behind_count_only_by_whether_there_are_any(self):
        for script in SCRIPTS:
            for lines in texts(2)[1:]:
                k = len(lines)
                alike = self.of_line(script, k, lines + ["a"])
                self.assertEqual(self.of_line(script, k, lines + ["b", "", "ab"]), alike)

    def test_whether_there_are_any_behind_counts(self):
        self.assertEqual(done("if last stop ; keep ;", 1, "a"), [0])
        self.assertEqual(done("if last stop ; keep ;", 1, "a", "b"), [1])

    def test_lines_before_count_only_by_the_held_line_and_how_many_they_are(self):
        for script in SCRIPTS:
            held_a = "if from 1 to 2 change a ; if from 1 to 2 keep ; if from 1 to 2 delete ; " + script
            for lines in texts(2)[1:]:
                alike = self.of_line(held_a, 3, ["", "b"] + lines)
                for before in (["b", ""], ["ab", "ca"], ["a", "a"]):
                    self.assertEqual(self.of_line(held_a, 3, before + lines), alike)

    def test_the_held_line_and_how_many_they_are_count(self):
        self.assertEqual(done("trade ; if is a delete ;", 2, "a", "b"), [0, 1])
        self.assertEqual(done("trade ; if is a delete ;", 2, "c", "b"), [0])
        self.assertEqual(done("if line 2 delete ;", 2, "a", "b"), [0])
        self.assertEqual(done("if line 2 delete ;", 3, "a", "b", "c"), [])

    def test_what_lines_before_put_does_not_count(self):
        text = as_text(["a", "b", "c"])
        put = after_load("if line 1 after x ; if line 3 keep ;", trace(3, text))
        self.assertEqual(put, [1, 1])


if __name__ == "__main__":
    unittest.main()
