"""What the other files ask of numbers, letters and tuples that are handed in."""

from sinceclocks.errors import NoBound, NoLetter, NoLetters


def is_number(thing, least):
    """Whether the thing is a whole number from least on."""
    # True and False are integers for Python, but no numbers here
    return isinstance(thing, int) and not isinstance(thing, bool) and thing >= least


def is_tuple(thing, size):
    """Whether the thing is a tuple of this size."""
    return isinstance(thing, tuple) and len(thing) == size


def is_letter(thing):
    """Whether the thing is a string of one letter from a to z."""
    return isinstance(thing, str) and len(thing) == 1 and "a" <= thing <= "z"


def is_letter_of(thing, letters):
    """Whether the thing is one of these letters."""
    # "in" alone would take any part of the string for a letter of it
    return is_letter(thing) and thing in letters


def is_letters(thing):
    """Whether the thing is a string of one or more letters, ascending, each once."""
    if not isinstance(thing, str) or thing == "":
        return False
    return all([is_letter(sign) for sign in thing]) and list(thing) == sorted(set(thing))


def check_letter(a):
    """Raises NoLetter if a is not a letter."""
    if not is_letter(a):
        raise NoLetter("a is not a letter")


def check_letters(letters):
    """Raises NoLetters if letters is not a string of one or more letters, ascending, each once."""
    if not is_letters(letters):
        raise NoLetters("letters is not a string of letters, ascending, each once")


def check_bound(m):
    """Raises NoBound if m is not a number from 0 on."""
    if not is_number(m, 0):
        raise NoBound("m is not a number from 0 on")
