import unittest

from sumtimes.errors import NoPlace, NoRow
from sumtimes.roots import is_root
from sumtimes.rows import neighbour
from sumtimes.ways import children, comes_from, led, way
from tests.plain import (
    NO_ROWS, STARTS, deep_rows, greater_ones, lesser_ones, long_rows, plain_way, some_rows, swapped,
)


def all_rows():
    return some_rows() + long_rows() + deep_rows()


class TestRows(unittest.TestCase):
    def test_the_rows_reach_as_far_as_the_tests_need(self):
        self.assertEqual({len(row) for times, row in some_rows()}, {3, 4, 5, 6})
        for times, row in deep_rows():
            self.assertGreaterEqual(len(str(row[-1])), 399)
        self.assertGreater(max(len(plain_way(times, row)[1]) for times, row in deep_rows()), 900)


class ComesFrom(unittest.TestCase):
    def test_written_ones(self):
        self.assertEqual(comes_from(3, [1, 2, 5]), [1, 1, 2])
        self.assertEqual(comes_from(3, [2, 5, 29]), [1, 2, 5])
        self.assertEqual(comes_from(3, [1, 1, 2]), [1, 1, 1])
        self.assertEqual(comes_from(1, [1, 1, 3, 3, 5]), [1, 1, 3, 3, 4])

    def test_none_for_a_root(self):
        for times, root in STARTS:
            self.assertIs(comes_from(times, root), None, (times, root))

    def test_the_only_lesser_neighbour(self):
        for times, row in all_rows():
            lesser = lesser_ones(times, row)
            self.assertLessEqual(len(lesser), 1)
            self.assertEqual(comes_from(times, row), lesser[0] if lesser else None)
            self.assertIs(comes_from(times, row) is None, is_root(times, row))

    def test_it_is_the_one_at_the_last_place(self):
        for times, row in all_rows():
            if not is_root(times, row):
                self.assertEqual(comes_from(times, row), neighbour(times, row, len(row) - 1))

    def test_kinds(self):
        told = comes_from(3, [1, 2, 5])
        self.assertIs(type(told), list)
        self.assertTrue(all(type(number) is int for number in told))


class Children(unittest.TestCase):
    def test_written_ones(self):
        self.assertEqual(children(3, [1, 2, 5]), [[1, 5, 13], [2, 5, 29]])
        self.assertEqual(children(3, [1, 1, 2]), [[1, 2, 5]])
        self.assertEqual(children(3, [1, 1, 1]), [[1, 1, 2]])
        self.assertEqual(children(1, [2, 2, 2, 2]), [[2, 2, 2, 6]])

    def test_each_once_where_numbers_are_like(self):
        for times, row in all_rows():
            told = children(times, row)
            self.assertEqual(len(told), len({tuple(child) for child in told}))
        for many in (3, 4, 5, 6):
            self.assertEqual(children(many, [1] * many), [[1] * (many - 1) + [many - 1]])

    def test_a_neighbour_of_like_size_is_no_child(self):
        self.assertEqual(neighbour(4, [1, 1, 1, 1, 2], 4), [1, 1, 1, 1, 2])
        self.assertEqual(children(4, [1, 1, 1, 1, 2]), [[1, 1, 1, 2, 7]])

    def test_against_the_plain_words(self):
        for times, row in all_rows():
            self.assertEqual(children(times, row), greater_ones(times, row), (times, row))

    def test_each_child_comes_from_its_row(self):
        for times, row in all_rows():
            for child in children(times, row):
                self.assertEqual(comes_from(times, child), row)

    def test_each_row_is_a_child_of_what_it_comes_from(self):
        for times, row in all_rows():
            lesser = comes_from(times, row)
            if lesser is not None:
                self.assertEqual(children(times, lesser).count(row), 1)

    def test_kinds(self):
        told = children(3, [1, 2, 5])
        self.assertIs(type(told), list)
        for child in told:
            self.assertIs(type(child), list)
            self.assertTrue(all(type(number) is int for number in child))


class Way(unittest.TestCase):
    def test_written_ones(self):
        self.assertEqual(way(3, [1, 1, 2]), ([1, 1, 1], [0]))
        self.assertEqual(way(3, [1, 2, 5]), ([1, 1, 1], [0, 0]))
        self.assertEqual(way(3, [1, 5, 13]), ([1, 1, 1], [0, 0, 1]))
        self.assertEqual(way(3, [2, 5, 29]), ([1, 1, 1], [0, 0, 0]))
        self.assertEqual(way(1, [1, 3, 3, 4, 35]), ([1, 1, 3, 3, 4], [0]))
        self.assertEqual(way(1, [1, 1, 3, 4, 9]), ([1, 1, 3, 3, 4], [2]))
        self.assertEqual(way(1, [1, 1, 3, 3, 5]), ([1, 1, 3, 3, 4], [4]))

    def test_a_root_has_an_empty_way(self):
        for times, root in STARTS:
            self.assertEqual(way(times, root), (root, []))

    def test_against_the_plain_words(self):
        for times, row in all_rows():
            self.assertEqual(way(times, row), plain_way(times, row))

    def test_it_leads_from_its_root_to_its_row(self):
        for times, row in all_rows():
            root, places = way(times, row)
            self.assertIs(is_root(times, root), True)
            self.assertEqual(led(times, root, places), row)

    def test_each_place_is_the_least_that_leads_there(self):
        for times, row in some_rows():
            reached, places = way(times, row)
            for place in places:
                further = neighbour(times, reached, place)
                for lower in range(place):
                    self.assertNotEqual(neighbour(times, reached, lower), further)
                reached = further

    def test_kinds(self):
        for times, row in ((3, [1, 1, 1]), (3, [1, 2, 5]), (1, [1, 1, 3, 3, 5])):
            told = way(times, row)
            self.assertIs(type(told), tuple)
            self.assertEqual(len(told), 2)
            self.assertIs(type(told[0]), list)
            self.assertIs(type(told[1]), list)
            self.assertTrue(all(type(number) is int for number in told[0] + told[1]))


class Led(unittest.TestCase):
    def test_written_ones(self):
        self.assertEqual(led(3, [1, 1, 1], [0, 0, 1]), [1, 5, 13])
        self.assertEqual(led(3, [1, 5, 13], [2, 2]), [1, 1, 2])
        self.assertEqual(led(4, [1, 1, 1, 1, 2], [4, 4, 4]), [1, 1, 1, 1, 2])

    def test_by_no_places_the_row_itself_as_a_new_list(self):
        for times, row in all_rows():
            told = led(times, row, [])
            self.assertEqual(told, row)
            self.assertIsNot(told, row)

    def test_one_neighbour_after_the_other(self):
        for times, row in some_rows():
            last = len(row) - 1
            for places in ([0], [last], [0, last], [last, 0], [1, 0, last], [last, last, 1], [2, 1, last, last]):
                reached = row
                for place in places:
                    reached = swapped(times, reached, place)[0]
                self.assertEqual(led(times, row, places), reached, (times, row, places))

    def test_down_from_rows_of_some_hundred_figures(self):
        for times, row in long_rows() + deep_rows():
            root, places = way(times, row)
            self.assertEqual(led(times, row, [len(row) - 1] * len(places)), root)

    def test_many_places(self):
        self.assertEqual(led(3, [1, 2, 5], [0, 2] * 5000), [1, 2, 5])

    def test_a_place_that_is_not_there(self):
        for times, row in some_rows():
            for wrong in (-1, -len(row), len(row), len(row) + 1, 10 ** 30, -10 ** 30):
                for places in ([wrong], [wrong, 0, 0], [0, wrong, 0], [0, 0, wrong]):
                    with self.assertRaises(NoPlace):
                        led(times, row, places)

    def test_a_place_that_is_not_there_behind_many_others(self):
        with self.assertRaises(NoPlace):
            led(3, [1, 1, 1], [0] * 20 + [3])
        with self.assertRaises(NoPlace):
            led(3, [1, 1, 1], [0] * 20 + [-1])

    def test_rows_of_some_hundred_figures_and_a_place_that_is_not_there(self):
        for times, row in long_rows() + deep_rows():
            for places in ([-1], [len(row)], [len(row) - 1, len(row)]):
                with self.assertRaises(NoPlace):
                    led(times, row, places)

    def test_kinds(self):
        for places in ([], [0], [0, 2]):
            told = led(3, [1, 2, 5], places)
            self.assertIs(type(told), list)
            self.assertTrue(all(type(number) is int for number in told))


class NoRows(unittest.TestCase):
    def test_no_row(self):
        for times, row in NO_ROWS:
            for asked in (comes_from, children, way):
                with self.assertRaises(NoRow, msg=(asked, times, row)):
                    asked(times, row)
            for places in ([], [0], [0, 1]):
                with self.assertRaises(NoRow):
                    led(times, row, places)

    def test_no_row_goes_ahead_of_no_place(self):
        for times, row in NO_ROWS:
            for places in ([-1], [len(row)], [0, 99], [99, 0], [0, -1, 0]):
                with self.assertRaises(NoRow):
                    led(times, row, places)

    def test_one_number_away_from_a_long_row(self):
        for times, row in long_rows() + deep_rows():
            moved = row[:-1] + [row[-1] + 1]
            for asked in (comes_from, children, way):
                with self.assertRaises(NoRow):
                    asked(times, moved)
            with self.assertRaises(NoRow):
                led(times, moved, [99])

    def test_other_times(self):
        for times, row in some_rows():
            for asked in (comes_from, children, way):
                with self.assertRaises(NoRow):
                    asked(times + 1, row)


class NothingHangsOnWhatIsHandedIn(unittest.TestCase):
    def test_nothing_handed_in_is_changed(self):
        for times, row in all_rows():
            before = list(row)
            places = [len(row) - 1, 0]
            comes_from(times, row)
            children(times, row)
            way(times, row)
            led(times, row, places)
            self.assertEqual(row, before)
            self.assertEqual(places, [len(row) - 1, 0])

    def test_nothing_refused_is_changed(self):
        for times, row in NO_ROWS:
            before = list(row)
            places = [0, 99]
            for asked in (comes_from, children, way):
                with self.assertRaises(NoRow):
                    asked(times, row)
            with self.assertRaises(NoRow):
                led(times, row, places)
            self.assertEqual(row, before)
            self.assertEqual(places, [0, 99])

    def test_a_told_list_may_be_changed(self):
        for times, row in some_rows():
            before = list(row)
            root, places = plain_way(times, before)
            told = [way(times, row)[0], way(times, row)[1], led(times, row, []), comes_from(times, row) or []]
            for each in told + children(times, row):
                each.append(77)
                each[0] = -5
            children(times, row).clear()
            self.assertEqual(row, before)
            self.assertEqual(way(times, row), (root, places))
            self.assertEqual(led(times, row, []), before)
            self.assertEqual(children(times, row), greater_ones(times, before))

    def test_the_root_that_a_way_tells_is_a_new_list(self):
        for times, root in STARTS:
            self.assertIsNot(way(times, root)[0], root)

    def test_a_handed_in_list_may_be_changed_later(self):
        row = [1, 2, 5]
        places = [0, 1]
        told = (comes_from(3, row), children(3, row), way(3, row), led(3, row, places), led(3, row, []))
        row[0] = 7
        row.append(8)
        places.clear()
        right = ([1, 1, 2], [[1, 5, 13], [2, 5, 29]], ([1, 1, 1], [0, 0]), [2, 29, 169], [1, 2, 5])
        self.assertEqual(told, right)
        root = [1, 1, 1]
        told = way(3, root)
        root.append(8)
        self.assertEqual(told, ([1, 1, 1], []))
        self.assertEqual(way(3, [1, 1, 1]), ([1, 1, 1], []))


if __name__ == "__main__":
    unittest.main()
