"""Section 11: texts of turns."""

import random
import unittest

from indexturns import texts
from indexturns.errors import InvalidText, InvalidTurn
from indexturns.makers import backwards, reversal, shuffled
from indexturns.texts import read_turn, show_turn
from indexturns.turns import Turn, identity
from tests.helpers import (
    LAST, NO_TURNS, ErrorCase, all_turns, long_cycle, odd, some_turns, three, tiles, turns_of_a_hundred_bits)

SIGNS = "".join(chr(code) for code in range(32, 127) if code != 37) + "\n"
LONGEST = "9" * 100
TOO_LONG = "9" * 101
# Parts that are no numbers, without a space in them.
NO_NUMBERS = ["", "x", "-1", "+1", "-0", "01", "00", "007", "1.0", "1e3", "0x1", "0b1", "1_0", "1,0", "1;0", ";",
              ";1", "\n", "1\n", "\n1", "1\n0", "None", "True", "(1)", "[1]", TOO_LONG, "1" + "0" * 100, "1" * 9000]


def is_told_number(part):
    """Whether a part is a number, told digit by digit."""
    return part == "0" or (
        1 <= len(part) <= 100 and part[0] in "123456789" and all(sign in "0123456789" for sign in part))


def told_part(text):
    """The number of the part that a text is refused for, -1 if it is the text of a turn."""
    parts = text.split("; ")[0].split(" ")
    is_divided = "; " in text
    if is_divided:
        parts.append(text[text.index("; ") + 2:])
    for part, word in enumerate(parts):
        if not is_told_number(word):
            return part
    if not is_divided:
        return len(parts)
    targets = [int(word) for word in parts[:-1]]
    is_turn = sorted(targets) == list(range(len(targets))) and len(targets) <= 100
    return -1 if is_turn and int(parts[-1]) < 2 ** len(targets) else len(parts)


class WhereTest(unittest.TestCase):
    def test_defined_here(self):
        for call in (show_turn, read_turn):
            self.assertEqual(call.__module__, "indexturns.texts")
            self.assertIs(getattr(texts, call.__name__), call)


class ThereAndBackTest(ErrorCase):
    def turns(self):
        found = [turn for bits in (1, 2, 3) for turn in all_turns(bits)] + turns_of_a_hundred_bits()
        return found + [turn for bits in (10, 11, 12, 64, 99) for turn in some_turns(bits, 4)]

    def test_each_text_is_read_as_its_turn(self):
        found = {}
        for turn in self.turns():
            text = show_turn(turn)
            self.assertIs(type(text), str)
            self.assert_turn(read_turn(text), turn.targets, turn.flips)
            self.assertEqual(show_turn(read_turn(text)), text)
            self.assertEqual(told_part(text), -1)
            self.assertEqual(found.setdefault(text, turn), turn)

    def test_known_texts(self):
        self.assertEqual([show_turn(three()), show_turn(odd()), show_turn(tiles()), show_turn(Turn([0], 0)),
                          show_turn(Turn([0], 1))], ["1 2 0; 0", "1 0; 1", "0 2 1 3; 0", "0; 0", "0; 1"])
        self.assertEqual(show_turn(Turn([2, 10, 0, 1, 3, 4, 5, 6, 7, 8, 9], 2047)), "2 10 0 1 3 4 5 6 7 8 9; 2047")
        digits = " ".join(str(bit) for bit in range(100))
        self.assertEqual(show_turn(identity(100)), digits + "; 0")
        self.assertEqual(show_turn(backwards(100)), digits + "; 1267650600228229401496703205375")
        self.assertEqual(read_turn(digits + f"; {LAST}"), backwards(100))

    def test_the_texts_are_read_as_known_turns(self):
        self.assert_turn(read_turn("0; 0"), [0], 0)
        self.assert_turn(read_turn("0; 1"), [0], 1)
        self.assert_turn(read_turn("3 2 1 0; 15"), [3, 2, 1, 0], 15)
        self.assertEqual(read_turn(" ".join(str(99 - bit) for bit in range(100)) + "; 0"), reversal(100))


class RefusedTextsTest(ErrorCase):
    def assert_part(self, part, text):
        error = self.assert_error(InvalidText, read_turn, text)
        self.assertEqual(error.part, part, text)
        self.assertIs(type(error.part), type(part))

    def test_no_strings(self):
        for wrong in NO_TURNS + [Turn([0], 0), [1, 2, 0], ("1 2 0; 0",), ["1 2 0; 0"], b"1 2 0; 0"]:
            if not isinstance(wrong, str):
                self.assert_part(None, wrong)

    def test_each_part_replaced(self):
        for wrong in NO_NUMBERS:
            for part in range(4):
                parts = ["1", "2", "0", "5"]
                parts[part] = wrong
                self.assert_part(part, " ".join(parts[:3]) + "; " + parts[3])
            self.assert_part(99, " ".join(str(bit) for bit in range(99)) + f" {wrong}; 0")
            self.assert_part(100, " ".join(str(bit) for bit in range(100)) + f"; {wrong}")

    def test_the_first_of_several_parts(self):
        for text, part in (("x y 0; z", 0), ("1 y 0; z", 1), ("1 2 0; z", 3), ("1 2  0; z", 2), ("1 y 1; 9", 1),
                           ("5 5 x; 0", 2), ("5 5 5; x", 3)):
            self.assert_part(part, text)

    def test_spaces(self):
        for text, part in ((" 1 2 0; 0", 0), ("1  2 0; 0", 1), ("1 2  0; 0", 2), ("1 2 0 ; 0", 3), ("1 2 0;  0", 3),
                           ("1 2 0; 0 ", 3), ("1 2 0; ", 3), ("1 2 0;", 2), ("1 2 0;0", 2), ("1 2 0 0", 4),
                           ("1 2 0 ;0", 3), ("", 0), (" ", 0), ("  ", 0), ("; ", 0), (";", 0), ("; 0", 0),
                           (" ; 0", 0), ("0", 1), ("0 ", 1), ("0 1", 2), ("0; ", 1), ("1 2 0, 0", 2)):
            self.assert_part(part, text)

    def test_a_second_divider(self):
        for text, part in (("1 2 0; 0; 0", 3), ("1 2 0; 0; ", 3), ("1 2 0; ; 0", 3), ("1; 2; 0; 0", 1), ("0; 0; x", 1),
                           ("x; 0; 0", 0), ("; ; ", 0), ("0; 0;", 1), ("0; 0;0", 1), ("0;0; 0", 0), ("1 0; 1 0", 2),
                           ("1 2 0; 0 0", 3)):
            self.assert_part(part, text)

    def test_without_a_divider(self):
        for text, part in (("1 2 0", 3), ("1 2 x", 2), ("x 2 0", 0), ("0", 1), ("7 7 7 7", 4), ("1 2 00", 2)):
            self.assert_part(part, text)
        self.assert_part(400, " ".join(["0"] * 400))

    def test_numbers_of_100_and_of_101_digits(self):
        self.assert_part(2, f"{LONGEST}; 0")
        self.assert_part(2, f"0; {LONGEST}")
        self.assert_part(4, f"1 {LONGEST} 0; 0")
        self.assert_part(4, f"1 2 0; {LONGEST}")
        self.assert_part(0, f"{TOO_LONG}; 0")
        self.assert_part(1, f"0; {TOO_LONG}")
        self.assert_part(1, f"1 {TOO_LONG} 0; 0")
        self.assert_part(3, f"{LONGEST} {LONGEST} {LONGEST} {TOO_LONG}; 0")

    def test_numbers_that_make_no_turn(self):
        for text, part in (("1; 0", 2), ("0 0; 0", 3), ("1 2; 0", 3), ("0 2; 0", 3), ("1 2 0; 8", 4), ("0; 2", 2),
                           ("1 2 3; 0", 4), ("1 2 1; 0", 4), ("1 2 0; 9", 4), ("3 3 3; 99", 4)):
            self.assert_part(part, text)
        self.assert_part(102, " ".join(str(bit) for bit in range(101)) + "; 0")
        self.assert_part(101, " ".join(str(bit) for bit in range(100)) + f"; {LAST + 1}")
        self.assert_part(401, " ".join(["0"] * 400) + "; 0")

    def test_other_digits_and_signs(self):
        for wrong in ("\u0661", "\uff11", "\u00b2", "\u2460", "\xa01", "1\xa0", "\t1", "1\t", "1\x00", "\u2212" + "1"):
            self.assert_part(1, f"1 {wrong} 0; 0")
            self.assert_part(3, f"1 2 0; {wrong}")

    def test_any_sign_replaced_put_in_or_left_out(self):
        chance = random.Random(3)
        answers = set()
        for turn in [Turn([0], 1), odd(), three(), tiles(), shuffled(11), long_cycle(3)]:
            text = show_turn(turn)
            for _ in range(300):
                at = chance.randrange(len(text))
                sign = chance.choice(SIGNS + " ;0123456789" * 5)
                ahead, behind = text[:at], text[at + 1:]
                for other in (ahead + sign + text[at:], ahead + behind, ahead + sign + behind):
                    part = told_part(other)
                    answers.add(part)
                    if part == -1:
                        self.assertEqual(show_turn(read_turn(other)), other)
                    else:
                        self.assert_part(part, other)
        self.assertLessEqual(set(range(-1, 13)), answers)

    def test_wrong_turns(self):
        for wrong in NO_TURNS:
            self.assert_error(InvalidTurn, show_turn, wrong)

    def test_the_arguments_stay(self):
        turn = Turn([1, 2, 0], 5)
        self.assertEqual([show_turn(turn), show_turn(turn)], ["1 2 0; 5"] * 2)
        self.assert_turn(turn, [1, 2, 0], 5)
        self.assertEqual(read_turn("1 2 0; 5"), read_turn("1 2 0; 5"))


if __name__ == "__main__":
    unittest.main()
