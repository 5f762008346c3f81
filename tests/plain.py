"""What the document says, written once more in the plainest way, to hold the program against."""

from math import isqrt, prod

# Pairs of times and a list that is no row of them: a number, the order or the times are off,
# or numbers below one are in it, among these some that fit the sum.
NO_ROWS = (
    (3, [1, 2, 4]),
    (3, [2, 1, 5]),
    (3, [5, 2, 1]),
    (2, [1, 2, 5]),
    (0, [1, 2, 5]),
    (-3, [1, 2, 5]),
    (1000, [1, 2, 5]),
    (3, [0, 0, 0]),
    (3, [-1, -1, 1]),
    (3, [-5, -2, 1]),
    (4, [0, 0, 0, 0]),
    (4, [-1, -1, 1, 1]),
    (4, [-1, -1, -1, -1]),
    (5, [1, 1, 1, 1, 2]),
    (6, [-1, -1, -1, -1, 1, 1]),
    (6, [1, 1, 1, 1, 1, 2]),
    (3, [10 ** 399, 10 ** 399, 10 ** 399]),
    (3, [-10 ** 399, 1, 10 ** 399]),
)


def rising_lists(many, most, least=1):
    """All lists of `many` numbers in order, from `least` on, with a sum of at most `most`."""
    if many == 0:
        yield []
        return
    for number in range(least, most // many + 1):
        for rest in rising_lists(many - 1, most - number, number):
            yield [number] + rest


def times_for(numbers):
    """The times of which the numbers are a row, or None."""
    squares = sum(number * number for number in numbers)
    times, rest = divmod(squares, prod(numbers))
    return times if rest == 0 else None


def swapped(times, row, place):
    """The neighbour at a place, and the number that is new in it."""
    others = [number for at, number in enumerate(row) if at != place]
    new = times * prod(others) - row[place]
    return sorted(others + [new]), new


def all_swapped(times, row):
    return [swapped(times, row, place)[0] for place in range(len(row))]


def looks_like_root(times, row):
    return all(sum(other) >= sum(row) for other in all_swapped(times, row))


def small_rows(many, most):
    """Pairs of times and row: all rows of `many` numbers with a size of at most `most`."""
    found = []
    for numbers in rising_lists(many, most):
        times = times_for(numbers)
        if times is not None:
            found.append((times, numbers))
    return found


def small_roots(many, most):
    """A dict from times to the list of its roots with a size of at most `most`, in order."""
    found = {}
    for times, row in small_rows(many, most):
        if looks_like_root(times, row):
            found.setdefault(times, []).append(row)
    return {times: sorted(rows, key=lambda row: (sum(row), row)) for times, rows in found.items()}


STARTS = (
    (1, [3, 3, 3]),
    (3, [1, 1, 1]),
    (1, [2, 2, 2, 2]),
    (4, [1, 1, 1, 1]),
    (1, [1, 1, 3, 3, 4]),
    (4, [1, 1, 1, 1, 2]),
    (5, [1, 1, 1, 1, 1]),
    (3, [1, 1, 1, 1, 2, 2]),
    (6, [1, 1, 1, 1, 1, 1]),
)


def some_rows():
    """Pairs of times and row: each start and all that lies at most three swaps from it."""
    found = []
    for times, start in STARTS:
        rows = [start]
        ring = [start]
        for step in range(3):
            ring = [other for row in ring for other in all_swapped(times, row)]
            for row in ring:
                if row not in rows:
                    rows.append(row)
        found.extend((times, row) for row in rows)
    return found


def long_rows():
    """For each start the last row, of those that place 0 leads to, within 400 figures."""
    found = []
    for times, start in STARTS:
        row = start
        further = swapped(times, row, 0)[0]
        while len(str(further[-1])) <= 400:
            row = further
            further = swapped(times, row, 0)[0]
        found.append((times, row))
    return found


def deep_rows():
    """For each start the last row within 400 figures, when the greatest two take turns.

    These rows lie many hundred steps from their roots, and keep like numbers at their first places.
    """
    return [(times, turning_rows(times, start)[-1]) for times, start in STARTS]


def turning_rows(times, start):
    """The rows that the last place but one leads to, again and again, within 400 figures."""
    found = [start]
    further = swapped(times, start, len(start) - 2)[0]
    while len(str(further[-1])) <= 400:
        found.append(further)
        further = swapped(times, further, len(start) - 2)[0]
    return found


def by_size(rows):
    return sorted(rows, key=lambda row: (sum(row), row))


def lesser_ones(times, row):
    return [other for other in all_swapped(times, row) if sum(other) < sum(row)]


def greater_ones(times, row):
    """The neighbours of greater size, each once, in order."""
    found = []
    for other in all_swapped(times, row):
        if sum(other) > sum(row) and other not in found:
            found.append(other)
    return by_size(found)


def plain_way(times, row):
    path = [row]
    while lesser_ones(times, path[0]):
        path.insert(0, lesser_ones(times, path[0])[0])
    places = []
    for here, there in zip(path, path[1:]):
        fitting = [place for place in range(len(row)) if swapped(times, here, place)[0] == there]
        places.append(min(fitting))
    return path[0], places


def rising_by_product(many, most, least=1):
    """All lists of `many` numbers in order, from `least` on, with a product of at most `most`."""
    if many == 0:
        yield []
        return
    number = least
    while number ** many <= most:
        for rest in rising_by_product(many - 1, most // number, number):
            yield [number] + rest
        number += 1


def wide_rows(times, many, most):
    """All rows with a size of at most `most`, in order, found without neighbours or roots.

    Let z be the greatest number, y the next, p the times times the product of all but z, and s
    the sum of their squares. Then z and p - z have the product s, which is at most
    (many - 1) * y * y; so p is at most z + (many - 1) * y and thus at most (many - 1) * most.
    """
    found = []
    for others in rising_by_product(many - 1, (many - 1) * most // times):
        factor = times * prod(others)
        square = factor * factor - 4 * sum(number * number for number in others)
        root = isqrt(max(square, 0))
        if root * root != square:
            continue
        for greatest in {(factor - root) // 2, (factor + root) // 2}:
            row = others + [greatest]
            if greatest >= others[-1] and sum(row) <= most and times_for(row) == times:
                found.append(row)
    return by_size(found)
