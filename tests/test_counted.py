import unittest

from sumtimes.counted import first_rows, place_of, row_at, up_to
from sumtimes.errors import NoRow, NoSuch
from sumtimes.rows import holds
from tests.plain import NO_ROWS, STARTS, by_size, greater_ones, small_rows, some_rows, wide_rows

# How many numbers, and up to which size every list is tried.
SMALL = ((3, 150), (4, 70), (5, 50), (6, 45))

# How many rows have a size of at most 100000; a search like wide_rows tells the same.
UP_TO_THE_BOUND = {
    (1, 3): 23, (3, 3): 29, (1, 4): 16, (4, 4): 17, (1, 5): 111, (4, 5): 21, (5, 5): 12, (3, 6): 52, (6, 6): 10,
}

WITH_ROOTS = sorted(UP_TO_THE_BOUND)
WITHOUT_ROOTS = [
    (times, many) for many in (3, 4, 5, 6) for times in (1, 2, 3, 4, 5, 6, 7, 999, 1000)
    if (times, many) not in UP_TO_THE_BOUND
]


def small_by_times(many, most):
    found = {}
    for times, row in small_rows(many, most):
        found.setdefault(times, []).append(row)
    return {times: by_size(rows) for times, rows in found.items()}


def walked(times, root, most):
    """All rows of a size of at most `most` that come from the root, in order."""
    found = []
    ring = [root]
    while ring:
        found.extend(ring)
        ring = [child for row in ring for child in greater_ones(times, row) if sum(child) <= most]
    return by_size(found)


class PlainSearch(unittest.TestCase):
    def test_every_list_of_a_small_size(self):
        for many, most in SMALL:
            found = small_by_times(many, most)
            for times in range(1, many + 5):
                rows = found.get(times, [])
                self.assertEqual(up_to(times, many, most), rows, (times, many))
                self.assertEqual(first_rows(times, many, len(rows)), rows, (times, many))
                self.assertEqual([place_of(times, row) for row in rows], list(range(len(rows))))
                self.assertEqual([row_at(times, many, at) for at in range(len(rows))], rows)

    def test_every_small_bound(self):
        for many, most in SMALL:
            found = small_by_times(many, most)
            for times in range(1, many + 2):
                for bound in range(most + 1):
                    rows = [row for row in found.get(times, []) if sum(row) <= bound]
                    self.assertEqual(up_to(times, many, bound), rows, (times, many, bound))

    def test_three_numbers_to_the_greatest_bound(self):
        for times in (1, 2, 3, 4):
            self.assertEqual(up_to(times, 3, 100000), wide_rows(times, 3, 100000))

    def test_more_numbers_to_a_great_bound(self):
        for many in (4, 5, 6):
            for times in range(1, many + 2):
                self.assertEqual(up_to(times, many, 2500), wide_rows(times, many, 2500), (times, many))

    def test_the_two_plain_searches_agree(self):
        for many, most in SMALL:
            found = small_by_times(many, most)
            for times in range(1, many + 2):
                self.assertEqual(wide_rows(times, many, most), found.get(times, []))


class UpTo(unittest.TestCase):
    def test_written_ones(self):
        self.assertEqual(up_to(3, 3, 40), [[1, 1, 1], [1, 1, 2], [1, 2, 5], [1, 5, 13], [2, 5, 29]])
        self.assertEqual(up_to(3, 3, 36), [[1, 1, 1], [1, 1, 2], [1, 2, 5], [1, 5, 13], [2, 5, 29]])
        self.assertEqual(up_to(3, 3, 35), [[1, 1, 1], [1, 1, 2], [1, 2, 5], [1, 5, 13]])

    def test_how_many_there_are_to_the_greatest_bound(self):
        for times, many in WITH_ROOTS:
            self.assertEqual(len(up_to(times, many, 100000)), UP_TO_THE_BOUND[(times, many)])

    def test_walked_from_the_roots(self):
        for times, root in STARTS:
            self.assertEqual(up_to(times, len(root), 100000), walked(times, root, 100000))

    def test_the_bound_itself_counts(self):
        for times, many in WITH_ROOTS:
            for row in up_to(times, many, 100000):
                self.assertIn(row, up_to(times, many, sum(row)))
                self.assertNotIn(row, up_to(times, many, sum(row) - 1))

    def test_no_size(self):
        for times, many in WITH_ROOTS + WITHOUT_ROOTS:
            self.assertEqual(up_to(times, many, 0), [])
            self.assertEqual(up_to(times, many, -1), [])

    def test_below_and_at_the_root(self):
        for times, root in STARTS:
            self.assertEqual(up_to(times, len(root), sum(root) - 1), [])
            self.assertEqual(up_to(times, len(root), sum(root)), [root])

    def test_no_roots(self):
        for times, many in WITHOUT_ROOTS:
            self.assertEqual(up_to(times, many, 100000), [], (times, many))

    def test_in_order_and_each_a_row_and_once(self):
        for times, many in WITH_ROOTS:
            rows = up_to(times, many, 100000)
            self.assertEqual(rows, by_size(rows))
            self.assertEqual(len(rows), len({tuple(row) for row in rows}))
            self.assertTrue(all(holds(times, row) and len(row) == many for row in rows))

    def test_somewhat_beyond_the_bounds(self):
        for times, root in STARTS:
            self.assertEqual(up_to(times, len(root), 200000), walked(times, root, 200000))
        self.assertEqual(up_to(0, 3, 100), [])
        self.assertEqual(up_to(1001, 3, 100), [])
        self.assertEqual(up_to(7, 7, 12), [[1] * 7, [1] * 6 + [6]])


class FirstRows(unittest.TestCase):
    def test_written_ones(self):
        self.assertEqual(first_rows(3, 3, 4), [[1, 1, 1], [1, 1, 2], [1, 2, 5], [1, 5, 13]])
        self.assertEqual(first_rows(1, 5, 3), [[1, 1, 3, 3, 4], [1, 1, 3, 3, 5], [1, 1, 3, 4, 9]])

    def test_no_count(self):
        for times, many in WITH_ROOTS + WITHOUT_ROOTS:
            self.assertEqual(first_rows(times, many, 0), [])
            self.assertEqual(first_rows(times, many, -1), [])

    def test_no_roots(self):
        for times, many in WITHOUT_ROOTS:
            for count in (1, 2, 300):
                self.assertEqual(first_rows(times, many, count), [])

    def test_the_greatest_count(self):
        for times, root in STARTS:
            rows = first_rows(times, len(root), 300)
            self.assertEqual(len(rows), 300)
            self.assertEqual(rows, walked(times, root, sum(rows[-1]))[:300])

    def test_each_count_begins_like_the_greatest(self):
        for times, many in WITH_ROOTS:
            rows = first_rows(times, many, 300)
            for count in (1, 2, 3, 5, 10, 29, 100, 299):
                self.assertEqual(first_rows(times, many, count), rows[:count])

    def test_like_sizes_stand_by_their_numbers(self):
        rows = first_rows(1, 5, 300)
        pairs = [(here, there) for here, there in zip(rows, rows[1:]) if sum(here) == sum(there)]
        self.assertGreater(len(pairs), 0)
        self.assertTrue(all(here < there for here, there in pairs))

    def test_somewhat_beyond_the_bounds(self):
        rows = first_rows(3, 3, 400)
        self.assertEqual(len(rows), 400)
        self.assertEqual(rows[:300], first_rows(3, 3, 300))
        self.assertEqual(first_rows(7, 7, 2), [[1] * 7, [1] * 6 + [6]])
        self.assertEqual(first_rows(0, 3, 5), [])

    def test_several_roots_and_their_rows_stand_in_one_order(self):
        for many in (14, 19):
            rows = first_rows(1, many, 12)
            self.assertEqual(rows, wide_rows(1, many, sum(rows[-1]))[:12])
            self.assertEqual(up_to(1, many, 200), wide_rows(1, many, 200))


class PlaceOf(unittest.TestCase):
    def test_written_ones(self):
        self.assertEqual(place_of(3, [1, 1, 1]), 0)
        self.assertEqual(place_of(3, [1, 2, 5]), 2)
        self.assertEqual(place_of(3, [2, 5, 29]), 4)

    def test_every_row_to_the_greatest_bound(self):
        for times, many in WITH_ROOTS:
            rows = up_to(times, many, 100000)
            self.assertEqual([place_of(times, row) for row in rows], list(range(len(rows))))

    def test_rows_of_like_size_have_places_of_their_own(self):
        rows = first_rows(1, 5, 120)
        like = [at for at in range(119) if sum(rows[at]) == sum(rows[at + 1])]
        self.assertGreater(len(like), 0)
        for at in like:
            self.assertEqual(place_of(1, rows[at]), at)
            self.assertEqual(place_of(1, rows[at + 1]), at + 1)

    def test_somewhat_beyond_the_bounds(self):
        for times, many in WITH_ROOTS:
            self.assertEqual(place_of(times, first_rows(times, many, 150)[-1]), 149)

    def test_no_row(self):
        for times, row in NO_ROWS:
            with self.assertRaises(NoRow):
                place_of(times, row)
        for times, row in some_rows():
            with self.assertRaises(NoRow):
                place_of(times + 1, row)


class RowAt(unittest.TestCase):
    def test_written_ones(self):
        self.assertEqual(row_at(3, 3, 0), [1, 1, 1])
        self.assertEqual(row_at(3, 3, 2), [1, 2, 5])

    def test_numbers_from_first_to_last(self):
        for times, many in WITH_ROOTS:
            rows = first_rows(times, many, 300)
            for number in (0, 1, 2, 50, 298, 299):
                self.assertEqual(row_at(times, many, number), rows[number])

    def test_a_number_below_nought(self):
        for times, many in WITH_ROOTS + WITHOUT_ROOTS:
            for number in (-1, -2, -300, -10 ** 30):
                with self.assertRaises(NoSuch):
                    row_at(times, many, number)

    def test_none_where_there_are_no_roots(self):
        for times, many in WITHOUT_ROOTS:
            for number in (0, 1, 299):
                with self.assertRaises(NoSuch):
                    row_at(times, many, number)

    def test_somewhat_beyond_the_bounds(self):
        self.assertEqual(row_at(3, 3, 320), first_rows(3, 3, 321)[-1])

    def test_it_has_so_many_ahead_of_it(self):
        for times, many in WITH_ROOTS:
            for number in range(UP_TO_THE_BOUND[(times, many)]):
                self.assertEqual(place_of(times, row_at(times, many, number)), number)


class Kinds(unittest.TestCase):
    def test_lists_of_lists_of_numbers(self):
        for told in (first_rows(3, 3, 20), up_to(3, 3, 100000), [row_at(3, 3, 7)], [row_at(3, 3, 0)]):
            self.assertIs(type(told), list)
            for row in told:
                self.assertIs(type(row), list)
                self.assertTrue(all(type(number) is int for number in row))

    def test_empty_lists(self):
        for told in (first_rows(3, 3, 0), first_rows(2, 3, 9), up_to(3, 3, 0), up_to(2, 3, 9)):
            self.assertIs(type(told), list)

    def test_a_number(self):
        self.assertIs(type(place_of(3, [1, 1, 1])), int)
        self.assertIs(type(place_of(3, [1, 2, 5])), int)


class NothingHangsOnWhatIsHandedIn(unittest.TestCase):
    def test_nothing_handed_in_is_changed(self):
        for times, row in some_rows():
            if sum(row) <= 100000:
                before = list(row)
                place_of(times, row)
                self.assertEqual(row, before)
        for times, row in NO_ROWS:
            before = list(row)
            with self.assertRaises(NoRow):
                place_of(times, row)
            self.assertEqual(row, before)

    def test_a_told_list_may_be_changed(self):
        for times, many in WITH_ROOTS:
            before = [list(row) for row in first_rows(times, many, 10)]
            bound = sum(before[-1])
            for told in (first_rows(times, many, 10), up_to(times, many, bound), [row_at(times, many, 0)]):
                for row in told:
                    row[0] = 99
                    row.append(7)
                told.append([0])
            self.assertEqual(first_rows(times, many, 10), before)
            self.assertEqual(up_to(times, many, bound)[:10], before)
            self.assertEqual(row_at(times, many, 0), before[0])
            self.assertEqual(place_of(times, before[5]), 5)

    def test_a_handed_in_list_may_be_changed_later(self):
        row = [1, 2, 5]
        self.assertEqual(place_of(3, row), 2)
        row[2] = 1
        with self.assertRaises(NoRow):
            place_of(3, row)
        row[1] = 1
        self.assertEqual(place_of(3, row), 0)
        self.assertEqual(place_of(3, [1, 2, 5]), 2)


if __name__ == "__main__":
    unittest.main()
