"""Scripts: commands, addresses, deeds, bounds, and faults 3, 4 and 7."""

import unittest

from tests.deskhelp import OWN_WORDS, load, loaded, shown, told

ADDRESSES = ("all", "line 1", "from 1 to 1", "last", "has w", "is w", "not all", "not not not last")
DEEDS = (
    "delete", "before w", "after w", "change w", "swap a b", "swap a none",
    "first a b", "first a none", "keep", "bring", "trade", "skip 1", "stop",
)


class Right(unittest.TestCase):
    def test_no_command(self):
        for script in ("", " \n", "# nothing"):
            self.assertEqual(loaded(script), [1, 0])

    def test_each_deed_alone(self):
        for deed in DEEDS:
            self.assertEqual(loaded(deed + " ;"), [1, 1], deed)

    def test_each_deed_behind_each_address(self):
        for address in ADDRESSES:
            for deed in DEEDS:
                self.assertEqual(loaded("if " + address + " " + deed + " ;"), [1, 1], (address, deed))

    def test_sixteen_commands(self):
        self.assertEqual(loaded("stop ;" * 16), [1, 16])
        self.assertEqual(loaded("stop ;" * 16 + " # the end"), [1, 16])

    def test_three_nots(self):
        self.assertEqual(loaded("if not not not last stop ;"), [1, 1])


class Fault3(unittest.TestCase):
    def at(self, script, place):
        self.assertEqual(loaded(script), [0, 3, place], script)

    def test_what_begins_no_command(self):
        for word in OWN_WORDS:
            if word == "if" or any(deed.split()[0] == word for deed in DEEDS):
                continue
            self.at(" " + word + " ;", 1)
        for token in (";", "w", "5"):
            self.at("stop ; " + token + " stop ;", 7)

    def test_what_is_no_address(self):
        for token in (";", "w", "5", "if", "stop", "to", "none", "delete", ""):
            self.at("if " + token, 3)
            self.at("if not " + token, 7)

    def test_an_address_alone_is_no_command(self):
        for address in ADDRESSES:
            self.at("if " + address + " ;", len("if " + address + " "))

    def test_what_is_no_deed_behind_an_address(self):
        for token in ("w", "5", "if", "all", "last", "none", "not"):
            self.at("if all " + token + " stop ;", 7)

    def test_letters_are_asked(self):
        for ahead in ("before ", "after ", "change ", "swap ", "first ", "swap a ", "first a ", "if has ", "if is "):
            for token in (";", "5", "stop"):
                self.at(ahead + token + " ;", len(ahead))
            self.at(ahead, len(ahead))

    def test_none_stands_in_place_of_b_alone(self):
        for ahead in ("before ", "after ", "change ", "swap ", "first ", "if has ", "if is "):
            self.at(ahead + "none ;", len(ahead))
        self.at("swap none b ;", 5)
        self.at("first none none ;", 6)

    def test_numbers_are_asked(self):
        for ahead in ("if line ", "if from ", "if from 1 to ", "skip "):
            for token in (";", "w", "last", "none", ""):
                self.at(ahead + token, len(ahead))

    def test_to_is_asked(self):
        for token in ("2", "w", ";", "from", ""):
            self.at("if from 1 " + token, 10)

    def test_the_sign_is_asked(self):
        for deed in DEEDS:
            for token in ("stop", "w", "1", "if", ""):
                self.at(deed + " " + token, len(deed) + 1)

    def test_the_end_has_the_place_behind_all_bytes(self):
        self.at("stop", 4)
        self.at("stop \n", 6)
        self.at("stop # ;", 8)
        self.at("if", 2)

    def test_the_first_fault_is_told(self):
        self.at("stop w ; keep w ;", 5)


class Fault4(unittest.TestCase):
    def test_whatever_stands_behind_the_sixteenth_command(self):
        for token in ("stop ;", "if", ";", "w", "5", "none"):
            self.assertEqual(loaded("stop ;" * 16 + " " + token), [0, 4, 97], token)

    def test_a_fourth_not(self):
        self.assertEqual(loaded("if not not not not all stop ;"), [0, 4, 15])
        self.assertEqual(loaded("if not not not not"), [0, 4, 15])
        self.assertEqual(loaded("if not not not not not all stop ;"), [0, 4, 15])

    def test_nots_are_counted_for_each_command(self):
        self.assertEqual(loaded("if not not not all stop ;" * 16), [1, 16])

    def test_a_not_elsewhere_is_fault_3(self):
        self.assertEqual(loaded("if not not not all not stop ;"), [0, 3, 19])
        self.assertEqual(loaded("not stop ;"), [0, 3, 0])


class Fault7(unittest.TestCase):
    def inside(self, script):
        self.assertEqual(loaded(script), [1, 1], script)

    def outside(self, script, place):
        self.assertEqual(loaded(script), [0, 7, place], script)

    def test_line(self):
        self.inside("if line 1 stop ;")
        self.inside("if line 99 stop ;")
        self.outside("if line 0 stop ;", 8)
        self.outside("if line 100 stop ;", 8)
        self.outside("if line 1000000000 stop ;", 8)

    def test_from(self):
        self.inside("if from 1 to 99 stop ;")
        self.inside("if from 99 to 99 stop ;")
        self.outside("if from 0 to 5 stop ;", 8)
        self.outside("if from 100 to 5 stop ;", 8)

    def test_to(self):
        self.inside("if from 5 to 5 stop ;")
        self.outside("if from 5 to 4 stop ;", 13)
        self.outside("if from 1 to 0 stop ;", 13)
        self.outside("if from 1 to 100 stop ;", 13)
        self.outside("if from 99 to 100 stop ;", 14)

    def test_skip(self):
        self.inside("skip 1 ;")
        self.inside("skip 9 ;")
        self.outside("skip 0 ;", 5)
        self.outside("skip 10 ;", 5)


class WhichComesFirst(unittest.TestCase):
    def test_3_ahead_of_7_and_4(self):
        self.assertEqual(loaded("stop w ; skip 0 ; if not not not not all stop ;"), [0, 3, 5])

    def test_7_ahead_of_3_and_4(self):
        self.assertEqual(loaded("if line 0 w ; if not not not not all stop ;"), [0, 7, 8])
        self.assertEqual(loaded("if from 0 w"), [0, 7, 8])
        self.assertEqual(loaded("skip 0"), [0, 7, 5])

    def test_4_ahead_of_3_and_7(self):
        self.assertEqual(loaded("if not not not not w ; skip 0 ;"), [0, 4, 15])
        self.assertEqual(loaded("stop ;" * 16 + "skip 0 ;"), [0, 4, 96])

    def test_a_fault_within_the_sixteenth_command_is_ahead_of_what_stands_behind(self):
        self.assertEqual(loaded("stop ;" * 15 + "skip 0 ; stop ;"), [0, 7, 95])


class NothingChanges(unittest.TestCase):
    def test_a_load_with_a_fault_leaves_the_script(self):
        faulty = (" " * 4097, "!", "stop", "if not not not not all stop ;", "skip 0 ;")
        for script in faulty:
            first, ahead, wrong, behind = told(load("keep ;"), shown(), load(script), shown())
            self.assertEqual((first, wrong[0]), ([1, 1], 0))
            self.assertEqual(behind, ahead)

    def test_a_load_with_a_fault_leaves_no_script(self):
        self.assertEqual(told(load("stop"), shown()), [[0, 3, 4], [-1]])

    def test_a_right_load_replaces_the_script(self):
        self.assertEqual(told(load("keep ;"), load(""), shown()), [[1, 1], [1, 0], [0]])


if __name__ == "__main__":
    unittest.main()
