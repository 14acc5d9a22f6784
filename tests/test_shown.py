"""One form, and promise 5: it is read as the same script."""

import unittest

from tests.deskhelp import SCRIPT, again, form, held, load, loaded, origins, rest, run, shown, told, touched, trace
from tests.test_grammar import ADDRESSES, DEEDS

TEXTS = ("", "\n", "w\n", "a\nw\naw\n", "wawa\n\na\nb\nw\n")


class OneForm(unittest.TestCase):
    def test_the_worked_script(self):
        self.assertEqual(form(SCRIPT), SCRIPT.replace("; ", ";\n") + "\n")

    def test_no_command_has_no_bytes(self):
        self.assertEqual(told(load("# none"), shown()), [[1, 0], [0]])

    def test_how_many_bytes_come_first(self):
        self.assertEqual(told(load("stop;"), shown())[1], [7, 115, 116, 111, 112, 32, 59, 10])

    def test_if_all_is_left_out(self):
        self.assertEqual(form("if all stop ; keep ;"), "stop ;\nkeep ;\n")

    def test_all_behind_a_not_stays(self):
        self.assertEqual(form("if not all stop ;"), "if not all stop ;\n")
        self.assertEqual(form("if not not all stop ;"), "if not not all stop ;\n")

    def test_nots_stay_as_many_as_told(self):
        for nots in range(4):
            script = "if " + "not " * nots + "last stop ;\n"
            self.assertEqual(form(script), script)

    def test_blanks_and_remarks_are_gone(self):
        self.assertEqual(form("#x\n if\tfrom 2#y\nto 30  skip 4;"), "if from 2 to 30 skip 4 ;\n")

    def test_each_address_and_deed_as_told(self):
        for address in ADDRESSES[1:]:
            for deed in DEEDS:
                line = "if " + address + " " + deed + " ;\n"
                self.assertEqual(form(line.replace(" ", "\t\n")), line)
        for deed in DEEDS:
            self.assertEqual(form("if all " + deed + ";"), deed + " ;\n")

    def test_the_longest_form_is_told_whole(self):
        line = "if not not not from 98 to 99 swap abcdefgh ijklmnop ;\n"
        self.assertEqual(form(line * 16), line * 16)


class ReadAgain(unittest.TestCase):
    def same(self, script):
        calls = [shown()]
        for text in TEXTS:
            calls += [run(text), origins(text), trace(1, text), trace(2, text), trace(3, text)]
            calls += [held(text), touched(text), again(2, text), again(10, text), rest(text)]
        halves = calls[:len(calls) // 2], calls[len(calls) // 2:]
        for half in halves:
            once = told(load(script), *half)
            self.assertEqual(told(load(form(script)), *half), once, script)

    def test_every_address_and_deed(self):
        for address in ADDRESSES:
            for deed in DEEDS:
                self.same("trade;if " + address + "#\n" + deed + ";after z;if has a keep;")

    def test_the_worked_script(self):
        self.same(SCRIPT)

    def test_no_command(self):
        self.same("")

    def test_sixteen_commands(self):
        self.same("if not has w after v;skip 1;" * 8)

    def test_the_form_of_the_form_is_the_form(self):
        self.assertEqual(form(form(SCRIPT)), form(SCRIPT))
        self.assertEqual(loaded(form(SCRIPT)), [1, 5])


if __name__ == "__main__":
    unittest.main()
