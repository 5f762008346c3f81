"""Ways: where a row comes from, what comes from it, and the places that lead to it."""

from sumtimes.rows import exchanged, in_order, must_have_place, must_hold, neighbour, neighbours, size


# At any other place the new number is greater than the old one: their product is the sum of
# the squares of the others, the greatest among them, and so above the square of the old one.
def comes_from(times, row):
    lesser = neighbour(times, row, len(row) - 1)
    return lesser if size(lesser) < size(row) else None


def children(times, row):
    found = []
    for other in neighbours(times, row):
        # Like numbers at several places have the same neighbour.
        if size(other) > size(row) and other not in found:
            found.append(other)
    return in_order(found)


def way(times, row):
    reached = list(row)
    places = []
    lesser = comes_from(times, reached)
    while lesser is not None:
        places.append(neighbours(times, lesser).index(reached))
        reached = lesser
        lesser = comes_from(times, reached)
    places.reverse()
    return (reached, places)


def led(times, row, places):
    must_hold(times, row)
    # All places ahead of the first step: the steps to a late wrong one may reach beyond 400 figures.
    for place in places:
        must_have_place(row, place)
    reached = list(row)
    for place in places:
        reached = exchanged(times, reached, place)
    return reached
