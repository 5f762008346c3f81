"""All rows of so many numbers and so many times, counted in their order."""

from sumtimes.errors import NoSuch
from sumtimes.roots import roots
from sumtimes.rows import in_order, must_hold, order_key, sized_at_most
from sumtimes.ways import children


# Each row is greater than the one that it comes from, so the least of the rows that wait
# is the next one of all; and no more need to wait than are still asked for.
def first_rows(times, many, count):
    found = []
    waiting = roots(times, many)
    while waiting and len(found) < count:
        least = waiting[0]
        found.append(least)
        waiting = in_order(waiting[1:] + children(times, least))[:count - len(found)]
    return found


def up_to(times, many, size):
    found = []
    ring = sized_at_most(roots(times, many), size)
    while ring:
        found.extend(ring)
        further = []
        for row in ring:
            further.extend(sized_at_most(children(times, row), size))
        ring = further
    return in_order(found)


def place_of(times, row):
    must_hold(times, row)
    # The sum is the size; in this file that name stands for a bound.
    others = up_to(times, len(row), sum(row))
    return len([other for other in others if order_key(other) < order_key(row)])


def row_at(times, many, number):
    found = first_rows(times, many, number + 1)
    # Python would count a number below nought from the end.
    if number < 0 or number >= len(found):
        raise NoSuch("there is no row of this number")
    return found[number]
