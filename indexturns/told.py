"""Which turns agree with where some items were seen to go.

A turn is told by what its bits do at the seen places. For each bit its values there, one after the other, are a word;
a flipped bit has all its letters the other way round. Freed of that, the word of a bit is that of its target.
"""

from math import factorial

from indexturns.checks import check_bits, check_places, is_between
from indexturns.errors import InvalidSeen
from indexturns.turns import check_turn

MOST_SEEN = 40


def agrees(turn, seen):
    """Whether a turn brings each seen item to its new place."""
    check_turn(turn)
    _check_seen(seen, turn.bits)
    words, new_words = _words_of_seen(seen, turn.bits)
    place, new_place = seen[0]
    return turn.goes_to(place) == new_place and words == [new_words[target] for target in turn.targets]


def turn_count(bits, seen):
    """How many turns bring each seen item to its new place."""
    check_bits(bits)
    _check_seen(seen, bits)
    words, new_words = _words_of_seen(seen, bits)
    if sorted(words) != sorted(new_words):
        return 0
    turns = 1
    # Bits of one word have their targets in any sequence among one another; the first seen item tells all flips then.
    for many in _numbers_of(words).values():
        turns = turns * factorial(many)
    return turns


def told_targets(bits, seen):
    """For each bit its target if all turns that agree have the same one, else None; None if no turn agrees."""
    check_bits(bits)
    _check_seen(seen, bits)
    words, new_words = _words_of_seen(seen, bits)
    if sorted(words) != sorted(new_words):
        return None
    numbers = _numbers_of(new_words)
    targets = {word: target for target, word in enumerate(new_words)}
    return [targets[word] if numbers[word] == 1 else None for word in words]


def first_contradiction(bits, seen):
    """The number of the first item such that no turn agrees with it and all ahead of it; None if there is none."""
    check_bits(bits)
    _check_seen(seen, bits)
    words, new_words = _words_of_seen(seen, bits)
    # Sorted words have their first letters sorted, too, however many of these. So with the items up to any number
    # the words are the same ones if each is the same up to there as the one at its place of the other list.
    unlike = max([word ^ new_word for word, new_word in zip(sorted(words), sorted(new_words))])
    if unlike == 0:
        return None
    return len(seen) - unlike.bit_length()


def tells(bits, places):
    """Whether no two turns agree with the items of these places, wherever these go."""
    check_bits(bits)
    check_places(places, MOST_SEEN, bits)
    return len(set(_words(places, bits))) == bits


def fewest_telling(bits):
    """The least number of places that tell a turn of so many bits."""
    check_bits(bits)
    # All words begin alike; behind that, the bits need as many words as they are themselves.
    return 1 + (bits - 1).bit_length()


def _check_seen(seen, bits):
    """Raises InvalidSeen unless the value is a list of 1 to 40 tuples of two places of an array of so many bits."""
    if not isinstance(seen, list) or not 1 <= len(seen) <= MOST_SEEN:
        raise InvalidSeen(None)
    for item, pair in enumerate(seen):
        if not isinstance(pair, tuple) or len(pair) != 2:
            raise InvalidSeen(item)
        if not all([is_between(place, 0, (1 << bits) - 1) for place in pair]):
            raise InvalidSeen(item)


def _words_of_seen(seen, bits):
    """The words of all bits at the seen places, and those at their new places."""
    places = [place for place, _ in seen]
    new_places = [new_place for _, new_place in seen]
    return (_words(places, bits), _words(new_places, bits))


def _words(places, bits):
    """For each bit its word at these places, as the number that its letters are as binary digits.

    A letter is 1 where the bit is not as it is at the first place. So a word is the same as its opposite.
    """
    rows = [f"{place ^ places[0]:b}".zfill(bits) for place in places]
    words = [int("".join(letters), 2) for letters in zip(*rows)]
    # Digits are written from the highest one on, bits are counted from the lowest one on.
    return words[::-1]


def _numbers_of(words):
    """How often each of the words is there."""
    numbers = {}
    for word in words:
        numbers[word] = numbers.get(word, 0) + 1
    return numbers
