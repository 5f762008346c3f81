"""Rows as they are written."""

from sumtimes.errors import BadText
from sumtimes.rows import must_hold

FIGURES = "0123456789"
MOST_FIGURES = 400
LEAST_NUMBERS = 3
MOST_NUMBERS = 6
MOST_TIMES = 1000


def shown(times, row):
    must_hold(times, row)
    words = [str(times), "x"] + [str(number) for number in row]
    return " ".join(words)


# Python's int would take signs, blanks and noughts ahead, so the form is asked first.
def is_number(word):
    if len(word) < 1 or len(word) > MOST_FIGURES:
        return False
    return word[0] != "0" and all([sign in FIGURES for sign in word])


def number_of(word):
    if not is_number(word):
        raise BadText("a number is not written as it should be")
    return int(word)


def read(text):
    words = text.split(" ")
    many = len(words) - 2
    if many < LEAST_NUMBERS or many > MOST_NUMBERS or words[1] != "x":
        raise BadText("the text is not times, an x and 3 to 6 numbers with a blank between")
    times = number_of(words[0])
    row = [number_of(word) for word in words[2:]]
    if times > MOST_TIMES:
        raise BadText("the times are above 1000")
    must_hold(times, row)
    return (times, row)
