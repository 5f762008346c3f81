import unittest
from math import prod

from sumtimes.errors import NoRow
from sumtimes.roots import is_root, roots, times_of
from sumtimes.rows import neighbour
from tests.plain import NO_ROWS, looks_like_root, long_rows, small_roots, small_rows, some_rows

# By point 5 no number but the two greatest is above 6, so their squares come to at most 39,
# the second greatest is at most 6 and the greatest at most 18: no root has a size above 33.
SIZE_ABOVE_ALL_ROOTS = 40


class IsRoot(unittest.TestCase):
    def test_written_ones(self):
        self.assertIs(is_root(3, [1, 1, 1]), True)
        self.assertIs(is_root(3, [1, 1, 2]), False)
        self.assertIs(is_root(3, [1, 2, 5]), False)
        self.assertIs(is_root(1, [3, 3, 3]), True)
        self.assertIs(is_root(1, [1, 1, 3, 3, 4]), True)
        self.assertIs(is_root(1, [1, 1, 3, 3, 5]), False)

    def test_a_neighbour_of_like_size_is_not_lesser(self):
        self.assertEqual(neighbour(4, [1, 1, 1, 1, 2], 4), [1, 1, 1, 1, 2])
        self.assertIs(is_root(4, [1, 1, 1, 1, 2]), True)

    def test_against_the_plain_words(self):
        for times, row in some_rows() + long_rows():
            self.assertIs(is_root(times, row), looks_like_root(times, row), (times, row))

    def test_every_small_row(self):
        for many in (3, 4, 5, 6):
            for times, row in small_rows(many, SIZE_ABOVE_ALL_ROOTS):
                self.assertIs(is_root(times, row), looks_like_root(times, row), (times, row))

    def test_only_the_last_place_leads_to_less(self):
        for times, row in some_rows():
            last = len(row) - 1
            lesser = [place for place in range(len(row)) if sum(neighbour(times, row, place)) < sum(row)]
            self.assertEqual(lesser, [] if is_root(times, row) else [last])

    def test_no_row(self):
        for times, row in NO_ROWS:
            with self.assertRaises(NoRow):
                is_root(times, row)

    def test_nothing_handed_in_is_changed(self):
        for times, row in some_rows():
            before = list(row)
            is_root(times, row)
            self.assertEqual(row, before)
        for times, row in NO_ROWS:
            before = list(row)
            with self.assertRaises(NoRow):
                is_root(times, row)
            self.assertEqual(row, before)

    def test_a_handed_in_list_may_be_changed_later(self):
        row = [1, 1, 1]
        self.assertIs(is_root(3, row), True)
        row[2] = 2
        self.assertIs(is_root(3, row), False)
        row[2] = 3
        with self.assertRaises(NoRow):
            is_root(3, row)


class Roots(unittest.TestCase):
    def test_against_a_plain_search(self):
        for many in (3, 4, 5, 6):
            found = small_roots(many, SIZE_ABOVE_ALL_ROOTS)
            for times in range(1, 30):
                self.assertEqual(roots(times, many), found.get(times, []), (times, many))

    def test_written_ones(self):
        self.assertEqual(roots(1, 3), [[3, 3, 3]])
        self.assertEqual(roots(2, 3), [])
        self.assertEqual(roots(3, 3), [[1, 1, 1]])
        self.assertEqual(roots(1, 4), [[2, 2, 2, 2]])
        self.assertEqual(roots(1, 5), [[1, 1, 3, 3, 4]])
        self.assertEqual(roots(4, 5), [[1, 1, 1, 1, 2]])
        self.assertEqual(roots(1, 6), [])
        self.assertEqual(roots(3, 6), [[1, 1, 1, 1, 2, 2]])

    def test_times_above_the_numbers_have_none(self):
        for many in (3, 4, 5, 6):
            for times in range(many + 1, 1002):
                self.assertEqual(roots(times, many), [])

    def test_point_five(self):
        for many in (3, 4, 5, 6):
            for times in range(1, many + 1):
                for root in roots(times, many):
                    self.assertEqual(len(root), many)
                    self.assertIs(is_root(times, root), True)
                    self.assertTrue(3 <= times * prod(root[:-2]) <= many)

    def test_bounds_refuse_nothing(self):
        for many in (3, 4, 5, 6):
            self.assertEqual(roots(0, many), [])
            self.assertEqual(roots(-1, many), [])
            self.assertEqual(roots(10 ** 6, many), [])
        self.assertEqual(roots(3, 2), [])

    def test_more_than_six_numbers_and_several_roots_in_order(self):
        for many, most in ((7, 30), (8, 30), (14, 32), (19, 37)):
            found = small_roots(many, most)
            for times in range(1, many + 2):
                self.assertEqual(roots(times, many), found.get(times, []), (times, many))
        self.assertGreater(len(roots(1, 14)), 1)
        self.assertGreater(len(roots(1, 19)), 1)

    def test_kinds(self):
        told = roots(3, 3)
        self.assertIs(type(told), list)
        self.assertIs(type(told[0]), list)
        self.assertTrue(all(type(number) is int for number in told[0]))
        self.assertIs(type(roots(2, 3)), list)

    def test_a_told_list_may_be_changed(self):
        for times, many in ((3, 3), (2, 3), (1, 4), (4, 5), (3, 6)):
            before = [list(root) for root in roots(times, many)]
            told = roots(times, many)
            for root in told:
                root[0] = 99
                root.append(7)
            told.append([0])
            self.assertEqual(roots(times, many), before)


class TimesOf(unittest.TestCase):
    def test_written_ones(self):
        self.assertEqual(times_of(3), [1, 3])
        self.assertEqual(times_of(4), [1, 4])
        self.assertEqual(times_of(5), [1, 4, 5])
        self.assertEqual(times_of(6), [3, 6])

    def test_against_a_plain_search(self):
        for many in (3, 4, 5, 6):
            self.assertEqual(times_of(many), sorted(small_roots(many, SIZE_ABOVE_ALL_ROOTS)))

    def test_the_same_as_roots_says(self):
        for many in (3, 4, 5, 6):
            self.assertEqual(times_of(many), [times for times in range(1, 1001) if roots(times, many)])

    def test_bounds_refuse_nothing(self):
        self.assertEqual(times_of(7), [1, 2, 3, 5, 7])
        self.assertEqual(times_of(2), [])

    def test_kinds_and_a_told_list_may_be_changed(self):
        told = times_of(3)
        self.assertIs(type(told), list)
        self.assertTrue(all(type(times) is int for times in told))
        told.clear()
        self.assertEqual(times_of(3), [1, 3])


if __name__ == "__main__":
    unittest.main()
