"""When items come to which places, found bit cycle by bit cycle and never turn by turn."""

from math import lcm

from indexturns.checks import check_number, check_place, check_places
from indexturns.turns import check_turn, power, split_into_cycles, visits_of_two_rounds

MOST_PLACES = 20


def period(turn, place):
    """The least number of turns from 1 on behind which the item at a place is there again."""
    check_turn(turn)
    check_place(place, turn.bits)
    turns = 1
    for word in _words(turn, place):
        turns = lcm(turns, _word_period(word))
    return turns


def after(turn, place, number):
    """The place of an item behind so many turns."""
    check_turn(turn)
    check_place(place, turn.bits)
    check_number(number)
    return power(turn, number).goes_to(place)


def turns_to(turn, place, other):
    """The least number of turns from 0 on that bring the item at a place to the other one, None if none do."""
    check_turn(turn)
    check_place(place, turn.bits)
    check_place(other, turn.bits)
    least = 0
    step = 1
    for word, other_word in zip(_words(turn, place), _words(turn, other)):
        rest = _word_turns(word, other_word)
        if rest is None:
            return None
        divisor = _word_period(word)
        least = _first_with_rest(least, step, rest, divisor)
        if least is None:
            return None
        step = lcm(step, divisor)
    return least


def all_home(turn, places):
    """The least number of turns from 1 on behind which the items of all these places are there again."""
    check_turn(turn)
    check_places(places, MOST_PLACES, turn.bits)
    turns = 1
    for place in places:
        turns = lcm(turns, period(turn, place))
    return turns


def _words(turn, place):
    """The words of an item, one for each bit cycle: its bits twice round, freed of the flips on their way.

    So each turn moves every letter of a word on by one, the last one to the front, and changes none.
    """
    words = []
    for cycle in split_into_cycles(turn.targets):
        visits = visits_of_two_rounds(cycle, turn.flips)
        words.append("".join([str((place >> bit & 1) ^ value) for bit, value in visits]))
    return words


def _word_period(word):
    """The least number of turns from 1 on that leave a word."""
    return (word + word).find(word, 1)


def _word_turns(word, other_word):
    """The least number of turns from 0 on that bring a word to another one, None if none do."""
    turns = (other_word + other_word).find(word)
    return turns if turns >= 0 else None


def _first_with_rest(least, step, rest, divisor):
    """The first of the numbers from the least one on, step by step, that leaves this rest; None if there is none."""
    # The rests come again behind as many steps as the divisor, which is 200 at most.
    for number in range(least, least + step * divisor, step):
        if number % divisor == rest:
            return number
    return None
