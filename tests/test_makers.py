"""Section 3: the makers."""

import itertools
import string
import unittest

from indexturns import makers
from indexturns.errors import InvalidBits, InvalidTurn, InvalidWord, UnlikeWords
from indexturns.makers import backwards, beside, converted, reversal, shuffled, transposed
from indexturns.turns import Turn, identity, inverse, then
from tests.helpers import NO_INTEGERS, NO_TURNS, ErrorCase, all_places, odd, some_turns, three, tiles

WRONG_BITS = NO_INTEGERS + [-1, 101, 10 ** 100, -10 ** 100]
NO_WORDS = [value for value in NO_INTEGERS if value != "a"] + [
    0, 7, 10 ** 100, ["a"], ["a", "b"], ("a",), b"a", {"a": 1}, three(), "A", "aB", "a b", " ", "a ", "a\n", "\n", "a1",
    "a-b", "a.", "{a}", "`", "abc_", "a" * 101, "ab" * 51, "a" * 10000, "\u00e4", "a\u00df", "\u0430"]


class WhereTest(unittest.TestCase):
    def test_defined_here(self):
        for name in ("reversal", "shuffled", "backwards", "transposed", "beside", "converted"):
            self.assertEqual(getattr(makers, name).__module__, "indexturns.makers")


class BitsTest(ErrorCase):
    def test_reversal_of_all_places(self):
        for bits in range(1, 7):
            told = [int(format(place, f"0{bits}b")[::-1], 2) for place in range(2 ** bits)]
            self.assertEqual(all_places(reversal(bits)), told)

    def test_shuffled_of_all_places(self):
        for bits in range(1, 7):
            half = 2 ** bits // 2
            told = [2 * place if place < half else 2 * (place - half) + 1 for place in range(2 ** bits)]
            self.assertEqual(all_places(shuffled(bits)), told)

    def test_backwards_of_all_places(self):
        for bits in range(1, 7):
            self.assertEqual(all_places(backwards(bits)), list(range(2 ** bits))[::-1])

    def test_each_number_of_bits(self):
        for bits in range(1, 101):
            self.assert_turn(reversal(bits), list(range(bits))[::-1], 0)
            self.assert_turn(shuffled(bits), list(range(1, bits)) + [0], 0)
            self.assert_turn(backwards(bits), list(range(bits)), 2 ** bits - 1)

    def test_one_bit(self):
        self.assert_turn(reversal(1), [0], 0)
        self.assert_turn(shuffled(1), [0], 0)
        self.assert_turn(backwards(1), [0], 1)

    def test_wrong_bits(self):
        for maker in (reversal, shuffled, backwards):
            for bits in WRONG_BITS + [0]:
                self.assert_error(InvalidBits, maker, bits)


class TransposedTest(ErrorCase):
    def test_item_by_item(self):
        for row_bits, column_bits in itertools.product(range(5), repeat=2):
            if row_bits + column_bits == 0:
                continue
            turn = transposed(row_bits, column_bits)
            self.assertEqual(turn.bits, row_bits + column_bits)
            for row, column in itertools.product(range(2 ** row_bits), range(2 ** column_bits)):
                place = row * 2 ** column_bits + column
                self.assertEqual(turn.goes_to(place), column * 2 ** row_bits + row)

    def test_one_row_or_one_column_stays(self):
        for bits in (1, 2, 50, 100):
            self.assert_turn(transposed(0, bits), list(range(bits)), 0)
            self.assert_turn(transposed(bits, 0), list(range(bits)), 0)

    def test_a_hundred_bits(self):
        for row_bits in (1, 37, 50, 99):
            column_bits = 100 - row_bits
            turn = transposed(row_bits, column_bits)
            for row in (0, 1, 2 ** row_bits - 1):
                for column in (0, 1, 2 ** column_bits - 1):
                    self.assertEqual(turn.goes_to(row * 2 ** column_bits + column), column * 2 ** row_bits + row)
            self.assertTrue(transposed(column_bits, row_bits) == inverse(turn))

    def test_wrong_bits(self):
        for wrong in WRONG_BITS:
            for other in (0, 1, 50, 100, None):
                self.assert_error(InvalidBits, transposed, wrong, other)
                self.assert_error(InvalidBits, transposed, other, wrong)

    def test_both_together(self):
        for row_bits, column_bits in ((0, 0), (1, 100), (100, 1), (51, 50), (100, 100)):
            self.assert_error(InvalidBits, transposed, row_bits, column_bits)


class BesideTest(ErrorCase):
    def assert_parts(self, turn, second, places):
        both = beside(turn, second)
        self.assertEqual(both.bits, turn.bits + second.bits)
        low = 2 ** turn.bits
        for place in places:
            told = turn.goes_to(place % low) + low * second.goes_to(place // low)
            self.assertEqual(both.goes_to(place), told)

    def test_both_parts_of_all_places(self):
        found = [Turn([0], 0), Turn([0], 1), odd(), three(), tiles()] + some_turns(2, 3) + some_turns(3, 4)
        for turn, second in itertools.product(found, repeat=2):
            self.assert_parts(turn, second, range(2 ** (turn.bits + second.bits)))

    def test_a_hundred_bits(self):
        for bits in (1, 13, 50, 99):
            turn, second = some_turns(bits, 1)[0], some_turns(100 - bits, 1)[0]
            self.assert_parts(turn, second, [0, 1, 2 ** 50, 10 ** 30, 2 ** 99, 2 ** 100 - 1])
        self.assertTrue(beside(backwards(40), backwards(60)) == backwards(100))

    def test_the_arguments_stay(self):
        turn, second = odd(), three()
        beside(turn, second)
        self.assert_turn(turn, [1, 0], 1)
        self.assert_turn(second, [1, 2, 0], 0)

    def test_too_many_bits(self):
        for bits, more in ((100, 1), (1, 100), (50, 51), (100, 100)):
            self.assert_error(InvalidBits, beside, identity(bits), backwards(more))

    def test_wrong_turns(self):
        for wrong in NO_TURNS:
            for other in (odd(), identity(100), None):
                self.assert_error(InvalidTurn, beside, wrong, other)
                self.assert_error(InvalidTurn, beside, other, wrong)


def told_by_letters(word, second_word):
    """The targets, each letter counted from behind."""
    targets = []
    for e in range(len(word)):
        letter = word[len(word) - 1 - e]
        from_behind = word[len(word) - e:].count(letter)
        same = [bit for bit in range(len(word)) if second_word[len(word) - 1 - bit] == letter]
        targets.append(same[from_behind])
    return targets


class ConvertedTest(ErrorCase):
    def test_small_words(self):
        self.assert_turn(converted("a", "a"), [0], 0)
        self.assert_turn(converted("ab", "ba"), [1, 0], 0)
        self.assert_turn(converted("cba", "acb"), [2, 0, 1], 0)
        self.assert_turn(converted("aab", "aba"), [1, 0, 2], 0)
        self.assert_turn(converted("zaz", "zza"), [1, 0, 2], 0)
        self.assert_turn(converted("aaaa", "aaaa"), [0, 1, 2, 3], 0)

    def test_all_words_of_few_letters(self):
        for letters in ("az", "abc", "aab", "xyxy", "aabbc", "qqqq"):
            words = sorted({"".join(word) for word in itertools.permutations(letters)})
            for word, second_word in itertools.product(words, repeat=2):
                self.assert_turn(converted(word, second_word), told_by_letters(word, second_word), 0)

    def test_transposed_as_words(self):
        self.assertTrue(converted("rrrccccc", "cccccrrr") == transposed(3, 5))

    def test_all_letters(self):
        letters = string.ascii_lowercase
        self.assertTrue(converted(letters, letters[::-1]) == reversal(26))

    def test_a_hundred_letters(self):
        self.assertTrue(converted("r" * 40 + "c" * 60, "c" * 60 + "r" * 40) == transposed(40, 60))
        self.assertTrue(converted("a" * 100, "a" * 100) == identity(100))
        letters = (string.ascii_lowercase * 4)[:100]
        shifted = letters[37:] + letters[:37]
        turn = converted(letters, shifted)
        self.assert_turn(turn, told_by_letters(letters, shifted), 0)
        self.assertTrue(then(turn, converted(shifted, letters)) == identity(100))

    def test_wrong_words(self):
        for wrong in NO_WORDS:
            self.assert_error(InvalidWord, converted, wrong, "a")
            self.assert_error(InvalidWord, converted, "a", wrong)
            self.assert_error(InvalidWord, converted, wrong, wrong)

    def test_wrong_words_go_before_unlike_ones(self):
        for wrong in ("", "A", "abc1", None, "a" * 101):
            self.assert_error(InvalidWord, converted, wrong, "abcd")
            self.assert_error(InvalidWord, converted, "abcd", wrong)

    def test_unlike_words(self):
        for word, second_word in (("a", "b"), ("a", "aa"), ("aab", "abb"), ("ab", "abc"), ("abc", "ab"), ("xyz", "xyy"),
                                  ("a" * 100, "a" * 99), ("a" * 100, "a" * 99 + "b")):
            self.assert_error(UnlikeWords, converted, word, second_word)
            self.assert_error(UnlikeWords, converted, second_word, word)


if __name__ == "__main__":
    unittest.main()
