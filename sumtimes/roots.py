"""Roots: the rows of which no neighbour has a lesser size."""

from sumtimes.rows import holds, in_order, neighbours, product, size, square_sum


def is_root(times, row):
    return all([size(other) >= size(row) for other in neighbours(times, row)])


# A head is what a row has but for its two greatest numbers. In a root the times times
# the product of the head is at most how many numbers there are, and this bounds each
# number that is put on.
def lengthened(times, many, head):
    least = max(head, default=1)
    most = many // (times * product(head))
    return [head + [number] for number in range(least, most + 1)]


def heads(times, many):
    found = [[]]
    for place in range(many - 2):
        longer = []
        for head in found:
            longer.extend(lengthened(times, many, head))
        found = longer
    return found


# Let f be the times times the product of the head, s the sum of its squares, and y and z
# the two greatest numbers. At the last place z gives way to f*y - z, so the row is a root
# just where z is at most half of f*y. It is a row where s + y*y + z*z - f*y*z is nought.
# This falls while z rises from y to half of f*y, so with y in the place of z it is not
# below nought: (f - 2)*y*y is at most s, which ends the loop.
def roots_on(times, head):
    factor = times * product(head)
    if factor < 3:
        return []
    found = []
    second = max(head, default=1)
    while (factor - 2) * second * second <= square_sum(head):
        for greatest in range(second, factor * second // 2 + 1):
            row = head + [second, greatest]
            if holds(times, row):
                found.append(row)
        second = second + 1
    return found


def roots(times, many):
    # The squares sum to more than nought, so there are no rows; nor would the heads be bounded.
    if times < 1:
        return []
    found = []
    for head in heads(times, many):
        found.extend(roots_on(times, head))
    return in_order(found)


def times_of(many):
    return [times for times in range(1, many + 1) if roots(times, many)]
