"""What the document says, written once more in the plainest way, to hold the program against."""

from math import prod

# Pairs of times and a list that is no row of them: a number, the order or the times are off,
# or numbers below one are in it, among these some that fit the sum.
NO_ROWS = (
    (3, [1, 2, 4]),
    (3, [2, 1, 5]),
    (3, [5, 2, 1]),
    (2, [1, 2, 5]),
    (0, [1, 2, 5]),
    (-3, [1, 2, 5]),
    (1000, [1, 2, 5]),
    (3, [0, 0, 0]),
    (3, [-1, -1, 1]),
    (3, [-5, -2, 1]),
    (4, [0, 0, 0, 0]),
    (4, [-1, -1, 1, 1]),
    (4, [-1, -1, -1, -1]),
    (5, [1, 1, 1, 1, 2]),
    (6, [-1, -1, -1, -1, 1, 1]),
    (6, [1, 1, 1, 1, 1, 2]),
    (3, [10 ** 399, 10 ** 399, 10 ** 399]),
    (3, [-10 ** 399, 1, 10 ** 399]),
)


def rising_lists(many, most, least=1):
    """All lists of `many` numbers in order, from `least` on, with a sum of at most `most`."""
    if many == 0:
        yield []
        return
    for number in range(least, most // many + 1):
        for rest in rising_lists(many - 1, most - number, number):
            yield [number] + rest


def times_for(numbers):
    """The times of which the numbers are a row, or None."""
    squares = sum(number * number for number in numbers)
    times, rest = divmod(squares, prod(numbers))
    return times if rest == 0 else None


def swapped(times, row, place):
    """The neighbour at a place, and the number that is new in it."""
    others = [number for at, number in enumerate(row) if at != place]
    new = times * prod(others) - row[place]
    return sorted(others + [new]), new


def all_swapped(times, row):
    return [swapped(times, row, place)[0] for place in range(len(row))]


def looks_like_root(times, row):
    return all(sum(other) >= sum(row) for other in all_swapped(times, row))


def small_rows(many, most):
    """Pairs of times and row: all rows of `many` numbers with a size of at most `most`."""
    found = []
    for numbers in rising_lists(many, most):
        times = times_for(numbers)
        if times is not None:
            found.append((times, numbers))
    return found


def small_roots(many, most):
    """A dict from times to the list of its roots with a size of at most `most`, in order."""
    found = {}
    for times, row in small_rows(many, most):
        if looks_like_root(times, row):
            found.setdefault(times, []).append(row)
    return {times: sorted(rows, key=lambda row: (sum(row), row)) for times, rows in found.items()}


STARTS = (
    (1, [3, 3, 3]),
    (3, [1, 1, 1]),
    (1, [2, 2, 2, 2]),
    (4, [1, 1, 1, 1]),
    (1, [1, 1, 3, 3, 4]),
    (4, [1, 1, 1, 1, 2]),
    (5, [1, 1, 1, 1, 1]),
    (3, [1, 1, 1, 1, 2, 2]),
    (6, [1, 1, 1, 1, 1, 1]),
)


def some_rows():
    """Pairs of times and row: each start and all that lies at most three swaps from it."""
    found = []
    for times, start in STARTS:
        rows = [start]
        ring = [start]
        for step in range(3):
            ring = [other for row in ring for other in all_swapped(times, row)]
            for row in ring:
                if row not in rows:
                    rows.append(row)
        found.extend((times, row) for row in rows)
    return found


def long_rows():
    """For each start the last row, of those that place 0 leads to, within 400 figures."""
    found = []
    for times, start in STARTS:
        row = start
        further = swapped(times, row, 0)[0]
        while len(str(further[-1])) <= 400:
            row = further
            further = swapped(times, row, 0)[0]
        found.append((times, row))
    return found
