"""Section 13: the console."""

import random
import unittest

from indexturns import console
from indexturns.console import Console
from indexturns.cycles import cycle_count, cycle_counts, order
from indexturns.errors import (
    InvalidBits, InvalidCommand, InvalidNumber, InvalidPages, InvalidPlace, InvalidText, Nothing, TurnError,
    UnlikeBits)
from indexturns.makers import backwards, reversal, shuffled
from indexturns.scripts import Script
from indexturns.sequence import inversions
from indexturns.stretches import stretch_count
from indexturns.texts import show_turn
from indexturns.turns import Turn, identity
from indexturns.ways import square_sum
from indexturns.when import after, period, turns_to
from tests.helpers import (
    LAST, NO_INTEGERS, ErrorCase, all_turns, many_cycles, odd, some_turns, three, tiles, turns_of_a_hundred_bits)

ASKED = ["show", "order", "cycles", "inversions", "squares", "stretches", "lengths", "spent"]
# For each form, how many numbers stand behind its word.
FORMS = {"script": 2, "again": 1, "undo": 0, "place": 1, "after": 2, "to": 2, "period": 1, **{
    word: 0 for word in ASKED}}


def console_of(bits, page_bits, *commands):
    made = Console()
    for command in (f"script {bits} {page_bits}",) + commands:
        made.execute(command)
    return made


def all_asked(made):
    return [made.execute(word) for word in ASKED]


class WhereTest(unittest.TestCase):
    def test_defined_here(self):
        self.assertEqual(Console.__module__, "indexturns.console")
        self.assertIs(console.Console, Console)
        self.assertIn("execute", vars(Console))


class StartTest(ErrorCase):
    def test_a_script_of_one_bit(self):
        made = Console()
        self.assertEqual(all_asked(made), ["0; 0", "1", "2", "0", "0", "1", "2x1", "0"])
        self.assert_error(Nothing, made.execute, "undo")
        self.assertEqual([made.execute("add 0; 1"), made.execute("spent"), made.execute("show")], ["ok", "2", "0; 1"])

    def test_consoles_apart(self):
        one, other = Console(), Console()
        one.execute("script 3 1")
        one.execute("add 1 2 0; 0")
        self.assertEqual(other.execute("show"), "0; 0")

    def test_a_new_script(self):
        made = console_of(3, 1, "add 1 2 0; 0")
        self.assertEqual([made.execute("script 3 1"), made.execute("show"), made.execute("spent")],
                         ["ok", "0 1 2; 0", "0"])
        self.assert_error(Nothing, made.execute, "undo")
        for bits, page_bits in ((1, 0), (1, 1), (100, 0), (100, 100)):
            made = console_of(bits, page_bits)
            self.assertEqual(made.execute("show"), show_turn(identity(bits)))


class AgainstTheFunctionsTest(ErrorCase):
    def assert_answers(self, made, turn, places):
        told = [show_turn(turn), order(turn), cycle_count(turn), inversions(turn), square_sum(turn),
                stretch_count(turn)]
        self.assertEqual(all_asked(made)[:6], [str(answer) for answer in told])
        lengths = [f"{many}x{length}" for length, many in cycle_counts(turn)]
        self.assertEqual(made.execute("lengths"), " ".join(lengths))
        for place in places:
            self.assertEqual(made.execute(f"place {place}"), str(turn.goes_to(place)))
            self.assertEqual(made.execute(f"period {place}"), str(period(turn, place)))
            for number in (0, 1, -1, 5, -7, 10 ** 30, -10 ** 99, 10 ** 100 - 1):
                self.assertEqual(made.execute(f"after {place} {number}"), str(after(turn, place, number)))
            for other in places:
                told = turns_to(turn, place, other)
                self.assertEqual(made.execute(f"to {place} {other}"), "none" if told is None else str(told))

    def test_turns_of_few_bits(self):
        for turn in all_turns(2) + all_turns(3)[::3] + some_turns(4, 5):
            made = console_of(turn.bits, 1, f"add {show_turn(turn)}")
            self.assert_answers(made, turn, range(2 ** turn.bits))

    def test_turns_of_a_hundred_bits(self):
        chance = random.Random(2)
        for turn in turns_of_a_hundred_bits()[::6]:
            made = console_of(100, 50, f"add {show_turn(turn)}")
            self.assert_answers(made, turn, [0, LAST, 2 ** 99, chance.randrange(2 ** 100)])

    def test_the_script_call_by_call(self):
        chance = random.Random(7)
        for bits, page_bits in ((1, 0), (3, 1), (5, 2), (100, 40)):
            made, script = console_of(bits, page_bits), Script(bits, page_bits)
            turns = some_turns(bits, 4, 3) + [identity(bits), backwards(bits)]
            for _ in range(40):
                kind, turn, number = chance.randrange(5), chance.choice(turns), chance.randrange(-9, 9)
                if kind < 2:
                    self.assertEqual(made.execute(f"add {show_turn(turn)}"), "ok")
                    script.add(turn)
                elif kind < 4:
                    self.assertEqual(made.execute(f"again {number}"), "ok")
                    script.again(number)
                elif script.log():
                    self.assertEqual(made.execute("undo"), "ok")
                    script.undo()
                else:
                    self.assert_error(Nothing, made.execute, "undo")
                self.assertEqual([made.execute("show"), made.execute("spent")],
                                 [show_turn(script.whole), str(script.spent)])

    def test_known_answers(self):
        made = console_of(100, 50, f"add {show_turn(reversal(100))}")
        self.assertEqual(all_asked(made)[1:], [
            "2", str(2 ** 99 + 2 ** 49), str(2 ** 98 * (2 ** 100 - 101)),
            str(2 ** 98 * sum((2 ** (99 - bit) - 2 ** bit) ** 2 for bit in range(100))), str(2 ** 100),
            f"{2 ** 50}x1 {2 ** 99 - 2 ** 49}x2", str(2 ** 100)])
        made = console_of(100, 100, f"add {show_turn(shuffled(100))}", "again 99")
        self.assertEqual([made.execute("show"), made.execute("spent")], [show_turn(identity(100)), "2"])

    def test_kinds_of_values(self):
        made = console_of(3, 1)
        for command in ["add 1 2 0; 0", "again 1", "undo", "place 1", "after 1 2", "to 1 3", "to 1 4", "period 1",
                        "script 4 2"] + ASKED:
            self.assertIs(type(made.execute(command)), str)


class RefusedTest(ErrorCase):
    def made(self):
        return console_of(3, 1, "add 1 2 0; 5", "again 2")

    def assert_refused(self, error_class, command):
        """The command raises the error and changes nothing."""
        made, told = self.made(), self.made()
        error = self.assert_error(error_class, made.execute, command)
        self.assertEqual(all_asked(made), all_asked(told))
        self.assertEqual([made.execute("undo"), told.execute("undo")], ["ok"] * 2)
        self.assertEqual(all_asked(made), all_asked(told))
        return error

    def test_no_strings(self):
        for wrong in NO_INTEGERS + [0, 1, ["show"], ("show",), b"show", {"show": 1}]:
            if not isinstance(wrong, str):
                self.assert_refused(InvalidCommand, wrong)

    def test_no_forms(self):
        for wrong in ("", " ", "\n", "x", "Show", "SHOW", "shows", "sho", "add", "adds", "Add 0; 0", "ADD 0; 0",
                      "add\n1 2 0; 0", "add;", "preview", "budget", "log", "whole", "bits", "help", "0", "1 2 0; 0",
                      "goes_to 1", "cycle_count", "turns_to 1 2", "script", "none", "ok"):
            self.assert_refused(InvalidCommand, wrong)

    def test_each_form_is_taken(self):
        for word, many in FORMS.items():
            self.assertIs(type(self.made().execute(" ".join([word] + ["1"] * many))), str)

    def test_missing_and_additional_words(self):
        for word, many in FORMS.items():
            for wrong in range(5):
                if wrong != many:
                    self.assert_refused(InvalidCommand, " ".join([word] + ["1"] * wrong))

    def test_empty_words_and_newlines(self):
        for word, many in FORMS.items():
            right = " ".join([word] + ["1"] * many)
            for wrong in (" " + right, right + " ", right.replace(" ", "  ", 1) if many else word + "  ",
                          right[::-1].replace(" ", "  ", 1)[::-1] if many else "  " + word, right + "\n", "\n" + right,
                          right.replace(" ", "\n", 1) if many else word[:1] + "\n" + word[1:],
                          right.replace(" ", " \n", 1) if many else word + "\nshow", right.replace(word, word + "\n")):
                self.assert_refused(InvalidCommand, wrong)

    def test_what_is_no_number(self):
        wrong_numbers = ["", "x", "+1", "01", "00", "-01", "-0", "--1", "-", "- 1", "1-", "1.0", "1e1", "0x1", "1_0",
                         "1,", "1;", "None", "True", "1\n", "-1\n", "9" * 101, "-" + "9" * 101, "1" + "0" * 100,
                         "\uff11", "\u00b2", "-\u0661", "1\t"]
        for word, many in FORMS.items():
            for at in range(many):
                for wrong in wrong_numbers:
                    numbers = ["1"] * many
                    numbers[at] = wrong
                    self.assert_refused(InvalidCommand, " ".join([word] + numbers))

    def test_the_errors_of_the_functions(self):
        for command, error_class in (
                ("script 0 0", InvalidBits), ("script 101 0", InvalidBits), ("script -1 0", InvalidBits),
                ("script 0 -1", InvalidBits), ("script 3 4", InvalidPages), ("script 3 -1", InvalidPages),
                ("script " + "9" * 100 + " 0", InvalidBits), ("script 3 " + "9" * 100, InvalidPages),
                ("place 8", InvalidPlace), ("place -1", InvalidPlace), ("period 8", InvalidPlace),
                ("period -1", InvalidPlace), ("after 8 1", InvalidPlace), ("after -1 1", InvalidPlace),
                ("to 8 1", InvalidPlace), ("to 1 8", InvalidPlace), ("to -1 1", InvalidPlace),
                ("to 1 -1", InvalidPlace), ("add 1 0; 0", UnlikeBits), ("add 0 1 2 3; 0", UnlikeBits),
                ("add 0; 0", UnlikeBits)):
            self.assert_refused(error_class, command)

    def test_texts_with_errors(self):
        for text, part in (("", 0), (" ", 0), (" 1 2 0; 0", 0), ("1  2 0; 0", 1), ("1 2 0; 0 ", 3), ("1 2 0; 0\n", 3),
                           ("1 2\n0; 0", 1), ("\n", 0), ("1 2 x; 0", 2), ("1 2 0", 3), ("1 2 0; ", 3), ("1 2 0;", 2),
                           ("1 2 0; 8", 4), ("1 2 2; 0", 4), ("1 2 0; 0; 0", 3), ("1 2 0; -1", 3), ("add 1 2 0; 0", 0),
                           ("0; 2", 2), ("0 1; x", 2), ("9 x; 0", 1)):
            error = self.assert_refused(InvalidText, "add " + text)
            self.assertEqual(error.part, part, text)

    def test_the_errors_of_read_turn_go_first(self):
        # The turn would have other bits than the script.
        self.assertEqual(self.assert_refused(InvalidText, "add 0 0; 0").part, 3)
        self.assertEqual(self.assert_refused(InvalidText, "add 1 0; 4").part, 3)
        self.assert_refused(UnlikeBits, "add 1 0; 3")

    def test_the_ends_of_the_ranges(self):
        made = self.made()
        for command in ("place 0", "place 7", "period 0", "period 7", "to 0 7", "to 7 0", "after 0 0", "after 7 -1",
                        "after 0 " + "9" * 100, "after 0 -" + "9" * 100):
            self.assertNotEqual(made.execute(command), "")
        for command in ("again " + "9" * 100, "again -" + "9" * 100, "again 0", "again -1", "script 1 0", "script 1 1",
                        "script 100 0", "script 100 100"):
            self.assertEqual(made.execute(command), "ok")

    def test_undo_of_all(self):
        made = self.made()
        self.assertEqual([made.execute("undo"), made.execute("undo")], ["ok", "ok"])
        self.assert_error(Nothing, made.execute, "undo")
        self.assertEqual([made.execute("show"), made.execute("spent")], ["0 1 2; 0", "0"])

    def test_no_command_has_another_answer_or_error(self):
        # Commands put together of parts of commands: each answer is a string, each error one of the package.
        chance = random.Random(11)
        parts = list(FORMS) + ["add", "1", "0", "-1", "7", "8", "2", "0;", "2;", "1;", "", "\n", "x"]
        made = self.made()
        for _ in range(3000):
            command = " ".join(chance.choice(parts) for _ in range(chance.randrange(1, 5)))
            words = command.split(" ")
            try:
                self.assertIs(type(made.execute(command)), str)
            except InvalidCommand:
                right = words[0] in FORMS and len(words) == 1 + FORMS[words[0]]
                self.assertFalse(right and all(word in ("1", "0", "-1", "7", "8", "2") for word in words[1:]), command)
                self.assertNotEqual(words[0] == "add" and len(words) > 1, True)
            except TurnError as error:
                self.assertNotIsInstance(error, InvalidNumber)


class LengthsTest(unittest.TestCase):
    def test_lengths(self):
        for turn, told in ((three(), "2x1 2x3"), (odd(), "1x4"), (tiles(), "8x1 4x2"), (identity(3), "8x1"),
                           (backwards(3), "4x2"), (Turn([0], 1), "1x2")):
            made = console_of(turn.bits, 0, f"add {show_turn(turn)}")
            self.assertEqual(made.execute("lengths"), told)
        turn = many_cycles(0)
        made = console_of(100, 0, f"add {show_turn(turn)}")
        self.assertEqual(len(made.execute("lengths").split(" ")), len(cycle_counts(turn)))


if __name__ == "__main__":
    unittest.main()
