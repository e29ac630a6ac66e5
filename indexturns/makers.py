"""Turns that are often wanted, made of few numbers, of other turns or of words."""

from indexturns.checks import MOST_BITS, check_bits, is_between
from indexturns.errors import InvalidBits, InvalidWord, UnlikeWords
from indexturns.turns import Turn, check_turn


def reversal(bits):
    """The turn that reads all places backwards, bit by bit."""
    check_bits(bits)
    return Turn([bits - 1 - bit for bit in range(bits)], 0)


def shuffled(bits):
    """The turn that shuffles the two halves of the array into one another."""
    check_bits(bits)
    return _turned_round(bits, 1)


def backwards(bits):
    """The turn that turns the array end for end."""
    check_bits(bits)
    return Turn(list(range(bits)), (1 << bits) - 1)


def transposed(row_bits, column_bits):
    """The turn of a matrix stored row by row to the one stored column by column."""
    if not is_between(row_bits, 0, MOST_BITS):
        raise InvalidBits("row_bits: not an integer from 0 to 100")
    if not is_between(column_bits, 0, MOST_BITS):
        raise InvalidBits("column_bits: not an integer from 0 to 100")
    check_bits(row_bits + column_bits)
    return _turned_round(row_bits + column_bits, row_bits)


def _turned_round(bits, steps):
    """The turn that moves all bits up by so many steps, those from the top in again at the bottom."""
    return Turn([(bit + steps) % bits for bit in range(bits)], 0)


def beside(turn, second):
    """The turn of the bits of both: the low ones as the first turn, those above as the second one."""
    check_turn(turn)
    check_turn(second)
    low = turn.bits
    check_bits(low + second.bits)
    targets = turn.targets + [low + target for target in second.targets]
    return Turn(targets, turn.flips | second.flips << low)


def converted(word, second_word):
    """The turn that brings the bits named by a word in the sequence of a second word."""
    _check_word(word)
    _check_word(second_word)
    if sorted(word) != sorted(second_word):
        raise UnlikeWords("the words do not have each letter equally often")
    targets = [0] * len(word)
    for bit, target in zip(_bits_by_letter(word), _bits_by_letter(second_word)):
        targets[bit] = target
    return Turn(targets, 0)


def _check_word(word):
    """Raises InvalidWord unless the value is a string of 1 to 100 letters from a to z."""
    if not isinstance(word, str) or not 1 <= len(word) <= MOST_BITS:
        raise InvalidWord("word: not a string of 1 to 100 letters")
    if not all(["a" <= letter <= "z" for letter in word]):
        raise InvalidWord("word: a sign is not a letter from a to z")


def _bits_by_letter(word):
    """All bits of a word: those of the least letter first, of one letter those from behind first."""
    named = sorted([(letter, bit) for bit, letter in enumerate(word[::-1])])
    return [bit for _, bit in named]
