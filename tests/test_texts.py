"""Texts of lines, and what is refused with -4."""

import unittest

from tests.deskhelp import after_load, again, held, load, origins, rest, run, told, touched, trace

TEXT_CALLS = (run, origins, lambda text: trace(1, text), held, touched, lambda text: again(0, text), rest)


class Told(unittest.TestCase):
    def as_it_is(self, text):
        count = text.count("\n")
        answer = after_load("", run(text))
        self.assertEqual(answer, [count, len(text)] + [ord(sign) for sign in text])
        self.assertEqual(after_load("", again(0, text)), answer)

    def test_no_line(self):
        self.as_it_is("")

    def test_one_line(self):
        self.as_it_is("a\n")

    def test_lines_without_letters(self):
        self.as_it_is("\n")
        self.as_it_is("\n\na\n\n")

    def test_a_line_of_16_letters(self):
        self.as_it_is("abcdefghijklmnop\n")

    def test_all_letters(self):
        self.as_it_is("abcdefghijklm\nnopqrstuvwxyz\n")

    def test_24_lines(self):
        self.as_it_is("a\n" * 24)
        self.as_it_is("\n" * 24)
        self.as_it_is("abcdefghijklmnop\n" * 24)

    def test_own_words_and_long_words_are_letters_of_a_line(self):
        self.as_it_is("delete\nabcdefghi\n")


class Refused(unittest.TestCase):
    def refused(self, text):
        for call in TEXT_CALLS:
            self.assertEqual(after_load("stop ;", call(text)), [-4], text)

    def test_a_line_of_17_letters(self):
        self.refused("abcdefghijklmnopq\n")
        self.refused("a\nabcdefghijklmnopq\nb\n")

    def test_a_last_line_that_no_byte_10_ends(self):
        self.refused("a")
        self.refused("a\nb")

    def test_25_lines(self):
        self.refused("a\n" * 25)
        self.refused("\n" * 25)
        self.refused("\n" * 8192)

    def test_24_lines_and_one_that_nothing_ends(self):
        self.refused("a\n" * 24 + "b")

    def test_every_other_byte(self):
        for byte in range(256):
            if byte != 10 and not 97 <= byte <= 122:
                self.refused([byte, 10])
                self.refused([97, 10, 97, byte, 10])

    def test_no_command_refuses_it_too(self):
        self.assertEqual(told(load(""), run("A\n"), run("a\n")), [[1, 0], [-4], [1, 2, 97, 10]])


if __name__ == "__main__":
    unittest.main()
