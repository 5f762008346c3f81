import unittest

from sumtimes.errors import NoPlace, NoRow
from sumtimes.rows import holds, in_order, neighbour, neighbours, size
from tests.plain import NO_ROWS, all_swapped, long_rows, rising_lists, some_rows, swapped, times_for


class Holds(unittest.TestCase):
    def test_rows_of_three_to_six_numbers(self):
        for times, row in some_rows():
            self.assertIs(holds(times, row), True, (times, row))

    def test_the_written_row(self):
        self.assertIs(holds(3, [1, 2, 5]), True)

    def test_lists_that_are_no_rows(self):
        for times, row in NO_ROWS:
            self.assertIs(holds(times, row), False, (times, row))

    def test_every_small_list(self):
        for many, most in ((3, 40), (4, 30), (5, 25), (6, 25)):
            for numbers in rising_lists(many, most):
                right = times_for(numbers)
                for times in range(1, many + 4):
                    self.assertIs(holds(times, numbers), times == right, (times, numbers))

    def test_one_number_away_from_a_row(self):
        for times, row in some_rows():
            for place in range(len(row)):
                for step in (-1, 1):
                    moved = list(row)
                    moved[place] += step
                    right = moved == sorted(moved) and min(moved) > 0 and times_for(moved) == times
                    self.assertIs(holds(times, moved), right, (times, moved))

    def test_another_order_of_a_row(self):
        for times, row in some_rows():
            for place in range(len(row) - 1):
                turned = list(row)
                turned[place], turned[place + 1] = row[place + 1], row[place]
                self.assertIs(holds(times, turned), turned == row, (times, turned))

    def test_other_times(self):
        for times, row in some_rows():
            for other in (0, -times, times - 1, times + 1, 999, 1000, 1001):
                self.assertIs(holds(other, row), False, (other, row))

    def test_numbers_below_nought_that_fit_the_sum(self):
        for times, row in some_rows():
            signed = sorted([-row[0], -row[1]] + row[2:])
            self.assertIs(holds(times, signed), False, (times, signed))

    def test_numbers_of_some_hundred_figures(self):
        for times, row in long_rows():
            self.assertGreater(len(str(row[-1])), 100)
            self.assertIs(holds(times, row), True)
            self.assertIs(holds(times, row[:-1] + [row[-1] + 1]), False)
            self.assertIs(holds(times, row[:-1] + [row[-1] - 1]), False)
            self.assertIs(holds(times + 1, row), False)

    def test_bounds_refuse_nothing(self):
        self.assertIs(holds(7, [1] * 7), True)
        self.assertIs(holds(8, [1] * 7), False)


class Neighbours(unittest.TestCase):
    def test_written_ones(self):
        self.assertEqual(neighbour(3, [1, 2, 5], 0), [2, 5, 29])
        self.assertEqual(neighbour(3, [1, 2, 5], 1), [1, 5, 13])
        self.assertEqual(neighbour(3, [1, 2, 5], 2), [1, 1, 2])
        self.assertEqual(neighbours(3, [1, 2, 5]), [[2, 5, 29], [1, 5, 13], [1, 1, 2]])
        self.assertEqual(neighbour(4, [1, 1, 1, 1, 2], 4), [1, 1, 1, 1, 2])
        self.assertEqual(neighbours(3, [1, 1, 1]), [[1, 1, 2], [1, 1, 2], [1, 1, 2]])

    def test_each_place_of_some_rows(self):
        for times, row in some_rows() + long_rows():
            self.assertEqual(neighbours(times, row), all_swapped(times, row))
            for place in range(len(row)):
                self.assertEqual(neighbour(times, row, place), swapped(times, row, place)[0])

    def test_each_is_a_row_and_leads_back(self):
        for times, row in some_rows() + long_rows():
            for place in range(len(row)):
                other = neighbour(times, row, place)
                self.assertIs(holds(times, other), True)
                new = swapped(times, row, place)[1]
                self.assertEqual(neighbour(times, other, other.index(new)), row)

    def test_kinds(self):
        for times, row in some_rows():
            other = neighbour(times, row, 0)
            self.assertIs(type(other), list)
            self.assertTrue(all(type(number) is int for number in other))
            others = neighbours(times, row)
            self.assertIs(type(others), list)
            self.assertEqual(len(others), len(row))
            self.assertTrue(all(type(each) is list for each in others))

    def test_a_place_that_is_not_there(self):
        for times, row in some_rows():
            for place in (-1, -2, -len(row), -len(row) - 1, len(row), len(row) + 1, 10 ** 30, -10 ** 30):
                with self.assertRaises(NoPlace):
                    neighbour(times, row, place)

    def test_no_row(self):
        for times, row in NO_ROWS:
            for place in (0, len(row) - 1):
                with self.assertRaises(NoRow):
                    neighbour(times, row, place)
            with self.assertRaises(NoRow):
                neighbours(times, row)

    def test_no_row_goes_ahead_of_no_place(self):
        for times, row in NO_ROWS:
            for place in (-1, len(row), 99):
                with self.assertRaises(NoRow):
                    neighbour(times, row, place)

    def test_bounds_refuse_nothing(self):
        self.assertEqual(neighbour(7, [1] * 7, 3), [1] * 6 + [6])
        self.assertEqual(neighbours(7, [1] * 7), [[1] * 6 + [6]] * 7)


class Size(unittest.TestCase):
    def test_any_list_of_numbers(self):
        self.assertEqual(size([1, 2, 5]), 8)
        self.assertEqual(size([5, 2, 1]), 8)
        self.assertEqual(size([]), 0)
        self.assertEqual(size([7]), 7)
        self.assertEqual(size([-4, 0, 1]), -3)
        self.assertEqual(size([10 ** 399] * 6), 6 * 10 ** 399)
        self.assertEqual(size(list(range(100))), 4950)

    def test_kind(self):
        self.assertIs(type(size([1, 2, 5])), int)
        self.assertIs(type(size([])), int)


class Order(unittest.TestCase):
    def test_by_size_then_by_the_first_numbers(self):
        rows = [[2, 2, 5], [1, 4, 4], [1, 2, 5], [1, 3, 5], [1, 1, 1]]
        self.assertEqual(in_order(rows), [[1, 1, 1], [1, 2, 5], [1, 3, 5], [1, 4, 4], [2, 2, 5]])


class NothingHangsOnWhatIsHandedIn(unittest.TestCase):
    def test_nothing_handed_in_is_changed(self):
        for times, row in some_rows():
            before = list(row)
            holds(times, row)
            size(row)
            neighbours(times, row)
            for place in range(len(row)):
                neighbour(times, row, place)
            self.assertEqual(row, before)

    def test_nothing_refused_is_changed(self):
        for times, row in NO_ROWS:
            before = list(row)
            holds(times, row)
            size(row)
            with self.assertRaises(NoRow):
                neighbour(times, row, 0)
            with self.assertRaises(NoRow):
                neighbours(times, row)
            self.assertEqual(row, before)

    def test_a_told_list_may_be_changed(self):
        for times, row in some_rows():
            before = list(row)
            for told in neighbours(times, row) + [neighbour(times, row, len(row) - 1)]:
                told.append(0)
                told[0] = -1
            neighbours(times, row).clear()
            self.assertEqual(row, before)
            self.assertEqual(neighbours(times, row), all_swapped(times, row))

    def test_told_rows_are_each_their_own(self):
        told = neighbours(3, [1, 1, 1])
        told[0].append(9)
        self.assertEqual(told, [[1, 1, 2, 9], [1, 1, 2], [1, 1, 2]])

    def test_a_row_that_is_its_own_neighbour_is_told_anew(self):
        row = [1, 1, 1, 1, 2]
        self.assertIsNot(neighbour(4, row, 4), row)
        self.assertIsNot(neighbours(4, row)[4], row)

    def test_a_handed_in_list_may_be_changed_later(self):
        row = [1, 2, 5]
        told = neighbours(3, row)
        one = neighbour(3, row, 0)
        row[0] = 7
        row.append(8)
        self.assertEqual(told, [[2, 5, 29], [1, 5, 13], [1, 1, 2]])
        self.assertEqual(one, [2, 5, 29])
        self.assertIs(holds(3, row), False)
        self.assertEqual(neighbour(3, [1, 2, 5], 0), [2, 5, 29])


if __name__ == "__main__":
    unittest.main()
