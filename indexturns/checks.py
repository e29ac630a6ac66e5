"""What several modules ask of the values that are passed to them."""

from indexturns.errors import InvalidBits, InvalidNumber, InvalidPages, InvalidPlace, InvalidPlaces

MOST_BITS = 100


def is_integer(value):
    """Whether a value is an integer."""
    # Python takes True and False for integers, the callers do not.
    return isinstance(value, int) and not isinstance(value, bool)


def is_between(value, least, greatest):
    """Whether a value is an integer from the least to the greatest one, both included."""
    return is_integer(value) and least <= value <= greatest


def check_bits(bits):
    """Raises InvalidBits unless an array can have so many bits."""
    if not is_between(bits, 1, MOST_BITS):
        raise InvalidBits("bits: not an integer from 1 to 100")


def check_place(place, bits):
    """Raises InvalidPlace unless an array of so many bits has this place."""
    if not is_between(place, 0, (1 << bits) - 1):
        raise InvalidPlace("place: not an integer from 0, less than the number of places")


def check_places(places, most, bits):
    """Raises InvalidPlaces unless the value is a list of 1 to so many places of an array of so many bits."""
    if not isinstance(places, list) or not 1 <= len(places) <= most:
        raise InvalidPlaces(None)
    for item, place in enumerate(places):
        if not is_between(place, 0, (1 << bits) - 1):
            raise InvalidPlaces(item)


def check_number(number):
    """Raises InvalidNumber unless the value is an integer."""
    if not is_integer(number):
        raise InvalidNumber("number: not an integer")


def check_page_bits(page_bits, bits):
    """Raises InvalidPages unless a page of an array of so many bits can have so many of them."""
    if not is_between(page_bits, 0, bits):
        raise InvalidPages("page_bits: not an integer from 0 to the number of bits")
