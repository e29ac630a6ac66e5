"""Texts of turns: the targets, then the flips."""

from indexturns.errors import InvalidFlips, InvalidTargets, InvalidText
from indexturns.turns import Turn, check_turn

MOST_DIGITS = 100


def show_turn(turn):
    """The text of a turn."""
    check_turn(turn)
    targets = " ".join([str(target) for target in turn.targets])
    return f"{targets}; {turn.flips}"


def read_turn(text):
    """The turn with a text."""
    if not isinstance(text, str):
        raise InvalidText(None)
    targets, divider, flips = text.partition("; ")
    words = targets.split(" ")
    if divider:
        words.append(flips)
    for part, word in enumerate(words):
        if not is_number(word):
            raise InvalidText(part)
    if not divider:
        raise InvalidText(len(words))
    return _turn_of_numbers([int(word) for word in words])


def _turn_of_numbers(numbers):
    """The turn with these targets and, as the last number, these flips."""
    try:
        return Turn(numbers[:-1], numbers[-1])
    except (InvalidTargets, InvalidFlips):
        raise InvalidText(len(numbers)) from None


def is_number(word):
    """Whether a word is a decimal number of at most 100 digits, without a sign and without zeros in front."""
    # Other scripts have digits, too; only those of ASCII are meant.
    if not word.isascii() or not word.isdigit() or len(word) > MOST_DIGITS:
        return False
    return word == "0" or not word.startswith("0")
