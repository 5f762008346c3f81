"""Rows, their neighbours, their sizes and their order."""

from sumtimes.errors import NoPlace, NoRow


def product(numbers):
    result = 1
    for number in numbers:
        result = result * number
    return result


def square_sum(numbers):
    return sum([number * number for number in numbers])


def holds(times, row):
    if any([number < 1 for number in row]):
        return False
    if row != sorted(row):
        return False
    return square_sum(row) == times * product(row)


def must_hold(times, row):
    if not holds(times, row):
        raise NoRow("the numbers are no row of these times")


def must_have_place(row, place):
    # Python would count a place below nought from the end.
    if place < 0 or place >= len(row):
        raise NoPlace("the row has no such place")


# Callers have asked must_hold already, so that a row is proved once and not at each place.
def exchanged(times, row, place):
    others = row[:place] + row[place + 1:]
    return sorted(others + [times * product(others) - row[place]])


def neighbour(times, row, place):
    must_hold(times, row)
    must_have_place(row, place)
    return exchanged(times, row, place)


def neighbours(times, row):
    must_hold(times, row)
    return [exchanged(times, row, place) for place in range(len(row))]


def size(row):
    return sum(row)


def order_key(row):
    return (size(row), row)


def in_order(rows):
    return sorted(rows, key=order_key)


def sized_at_most(rows, most):
    return [row for row in rows if size(row) <= most]
