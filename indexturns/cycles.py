"""The cycles in which the bits and the items of a turn move, counted without going through the items."""

from math import gcd, lcm

from indexturns.checks import check_number
from indexturns.turns import check_turn, split_into_cycles


def bit_cycles(turn):
    """The tuples (bits, whether they are odd) of all bit cycles, ascending by their least bits."""
    check_turn(turn)
    flips = turn.flips
    return [(bits, sum([flips >> bit & 1 for bit in bits]) % 2 == 1) for bits in split_into_cycles(turn.targets)]


def order(turn):
    """The least number of turns from 1 on that leave all items."""
    turns = 1
    for bits, is_odd in bit_cycles(turn):
        turns = lcm(turns, 2 * len(bits) if is_odd else len(bits))
    return turns


def left_by(turn, number):
    """How many items are at their own places behind so many turns."""
    check_turn(turn)
    check_number(number)
    items = 1
    for bits, is_odd in bit_cycles(turn):
        items = items * _words_left(len(bits), is_odd, number)
    return items


def items_with(turn, number):
    """How many items have this period."""
    check_turn(turn)
    check_number(number)
    return _items_by_period(turn).get(number, 0)


def cycle_counts(turn):
    """The ascending tuples (length, how many cycles of items) of all lengths that there are."""
    check_turn(turn)
    items = _items_by_period(turn)
    return [(length, items[length] // length) for length in sorted(items)]


def cycle_count(turn):
    """How many cycles of items there are, those of one item as well."""
    return sum([many for _, many in cycle_counts(turn)])


def _words_left(length, is_odd, number):
    """How many words of a bit cycle of this length stay as they are behind so many turns."""
    free = gcd(length, number)
    # An odd bit cycle flips a bit each time that it goes round; behind an odd number of rounds none is as it was.
    if is_odd and number // free % 2 == 1:
        return 0
    return 1 << free


def _words_by_period(length, is_odd):
    """How many words of a bit cycle of this length have which period, for all periods that there are."""
    words = {}
    for number in range(1, 2 * length + 1):
        # Two rounds leave all words, so only what divides them is a period.
        if 2 * length % number == 0:
            sooner = sum([words[period] for period in words if number % period == 0])
            many = _words_left(length, is_odd, number) - sooner
            if many > 0:
                words[number] = many
    return words


def _items_by_period(turn):
    """How many items have which period, for all periods that there are.

    The bit cycles are taken in one by one. All that counts of the words so far is the period that they have together,
    and of periods there are few, however many items there are.
    """
    items = {1: 1}
    for bits, is_odd in bit_cycles(turn):
        items = _taken_together(items, _words_by_period(len(bits), is_odd))
    return items


def _taken_together(items, words):
    """How many pairs of one of the items and one of the words have which period."""
    pairs = {}
    for period in items:
        for second_period in words:
            both = lcm(period, second_period)
            pairs[both] = pairs.get(both, 0) + items[period] * words[second_period]
    return pairs
