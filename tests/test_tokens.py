"""Tokens: blanks, remarks, words, numbers, the sign, and faults 1 and 2."""

import unittest

from tests.deskhelp import OWN_WORDS, form, load, loaded, told


class ScriptsLength(unittest.TestCase):
    def test_4096_bytes_are_read(self):
        script = "stop ;" + " " * 4090
        self.assertEqual(len(script), 4096)
        self.assertEqual(loaded(script), [1, 1])

    def test_4097_bytes_are_fault_1_at_4096(self):
        self.assertEqual(loaded("stop ;" + " " * 4091), [0, 1, 4096])

    def test_8192_bytes_are_fault_1_at_4096(self):
        self.assertEqual(loaded([0] * 8192), [0, 1, 4096])

    def test_fault_1_is_ahead_of_all_others(self):
        self.assertEqual(loaded("! ; 01" + " " * 4091), [0, 1, 4096])


class Gaps(unittest.TestCase):
    def test_each_blank_parts_tokens(self):
        self.assertEqual(form("if\thas\na stop\t;\n"), "if has a stop ;\n")

    def test_blanks_stand_at_both_ends(self):
        self.assertEqual(loaded(" \t\nstop ; \t\n"), [1, 1])

    def test_other_white_bytes_are_no_blanks(self):
        for byte in (0, 11, 12, 13, 160):
            self.assertEqual(loaded([byte] + [ord(sign) for sign in "stop ;"]), [0, 2, 0])

    def test_remarks_stand_between_any_two_tokens(self):
        tokens = "if not from 1 to 2 swap a none ; if has b stop ;".split()
        script = "#! A\n" + "#;\n".join(tokens) + "# Z"
        self.assertEqual(form(script), "if not from 1 to 2 swap a none ;\nif has b stop ;\n")

    def test_a_remark_at_the_end_needs_no_byte_10(self):
        self.assertEqual(loaded("stop ;#stop ;"), [1, 1])
        self.assertEqual(loaded("#"), [1, 0])

    def test_a_remark_holds_any_bytes_but_10(self):
        others = [byte for byte in range(256) if byte != 10]
        self.assertEqual(loaded([35] + others + [10] + [ord(sign) for sign in "stop;"]), [1, 1])

    def test_a_remark_ends_at_its_first_byte_10(self):
        self.assertEqual(loaded("# a\n!"), [0, 2, 4])

    def test_a_remark_hides_a_token(self):
        self.assertEqual(loaded("stop # ;"), [0, 3, 8])

    def test_a_remark_parts_a_word(self):
        self.assertEqual(loaded("st#\nop ;"), [0, 3, 0])

    def test_tokens_need_no_gap_where_they_end_by_themselves(self):
        self.assertEqual(form("skip9;if line3stop;stop;"), "skip 9 ;\nif line 3 stop ;\nstop ;\n")


class Words(unittest.TestCase):
    def test_a_word_of_8_letters(self):
        self.assertEqual(form("change abcdefgh ;"), "change abcdefgh ;\n")

    def test_a_word_of_9_letters_is_fault_2_at_its_first_byte(self):
        self.assertEqual(loaded("change abcdefghi ;"), [0, 2, 7])

    def test_a_word_goes_as_far_as_letters_go(self):
        self.assertEqual(loaded("beforeab"), [0, 3, 0])
        self.assertEqual(loaded("beforeabc d ;"), [0, 2, 0])

    def test_a_and_z_are_letters_and_their_neighbours_are_not(self):
        self.assertEqual(loaded("change az ;"), [1, 1])
        for byte in (96, 123, 65, 90, 225):
            self.assertEqual(loaded([ord(sign) for sign in "change "] + [byte]), [0, 2, 7])

    def test_the_scripts_own_words_are_no_letters(self):
        self.assertEqual(len(OWN_WORDS), 21)
        for word in OWN_WORDS:
            for ahead in ("before ", "after ", "change ", "swap ", "first ", "if has ", "if is "):
                self.assertEqual(loaded(ahead + word + " ;"), [0, 3, len(ahead)], ahead + word)

    def test_words_that_only_begin_like_own_words_are_letters(self):
        for word in OWN_WORDS:
            for longer in (word + "x", word[:-1] + "q"):
                self.assertEqual(loaded("change " + longer + " ;"), [1, 1], longer)


class Numbers(unittest.TestCase):
    def test_the_greatest_number_is_a_token(self):
        self.assertEqual(loaded("skip 1000000000 ;"), [0, 7, 5])

    def test_one_more_is_fault_2(self):
        self.assertEqual(loaded("skip 1000000001 ;"), [0, 2, 5])
        self.assertEqual(loaded("skip 9999999999 ;"), [0, 2, 5])

    def test_a_number_of_very_many_digits_is_fault_2(self):
        self.assertEqual(loaded("skip " + "9" * 4091), [0, 2, 5])

    def test_a_needless_zero_is_fault_2(self):
        for number in ("01", "00", "007", "01000000000"):
            self.assertEqual(loaded("skip " + number + " ;"), [0, 2, 5], number)

    def test_zero_alone_is_a_token(self):
        self.assertEqual(loaded("skip 0 ;"), [0, 7, 5])

    def test_a_number_ends_where_a_letter_begins(self):
        self.assertEqual(loaded("if line 12stop;"), [1, 1])

    def test_signs_of_numbers_are_no_tokens(self):
        self.assertEqual(loaded("skip -1 ;"), [0, 2, 5])
        self.assertEqual(loaded("skip +1 ;"), [0, 2, 5])

    def test_the_neighbours_of_the_digits_are_no_tokens(self):
        self.assertEqual(loaded("skip / ;"), [0, 2, 5])
        self.assertEqual(loaded("skip : ;"), [0, 2, 5])


class Fault2(unittest.TestCase):
    def test_no_other_byte_begins_a_token(self):
        allowed = [9, 10, 32, 35, 59] + list(range(48, 58)) + list(range(97, 123))
        for byte in range(256):
            answer = told(load([byte]))[0]
            if byte in allowed:
                self.assertNotEqual(answer[:2], [0, 2], byte)
            else:
                self.assertEqual(answer, [0, 2, 0], byte)

    def test_the_first_place_is_told(self):
        self.assertEqual(loaded("stop ; 01 ! abcdefghi"), [0, 2, 7])
        self.assertEqual(loaded("stop ; ! 01"), [0, 2, 7])

    def test_fault_2_is_ahead_of_faults_that_stand_before_it(self):
        self.assertEqual(loaded("; if line 0 not not not not !"), [0, 2, 28])
        self.assertEqual(loaded("stop ;" * 17 + "!"), [0, 2, 102])


if __name__ == "__main__":
    unittest.main()
