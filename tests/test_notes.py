import unittest

from sumtimes.errors import BadText, NoRow
from sumtimes.notes import read, shown
from tests.plain import NO_ROWS, STARTS, deep_rows, long_rows, some_rows, swapped, times_for, turning_rows

GOOD = ("3 x 1 2 5", "1 x 3 3 3", "4 x 1 1 1 1 2", "3 x 1 1 1 1 2 2", "1 x 2 2 2 2", "3 x 5 433 6466")
SIGNS = [sign for sign in "\t\n" + "".join(chr(code) for code in range(32, 127)) if sign != "%"]


def all_rows():
    return some_rows() + long_rows() + deep_rows()


def plain_text(times, row):
    text = f"{times} x"
    for number in row:
        text = text + " " + str(number)
    return text


def plain_outcome(text):
    """What reading the text comes to: a pair, NoRow or BadText, by the document's words."""
    words = text.split(" ")
    if len(words) not in (5, 6, 7, 8) or words[1] != "x":
        return BadText
    for word in words[:1] + words[2:]:
        if not 1 <= len(word) <= 400 or word[0] == "0" or not set(word) <= set("0123456789"):
            return BadText
    times = int(words[0])
    row = [int(word) for word in words[2:]]
    if times > 1000:
        return BadText
    return (times, row) if row == sorted(row) and times_for(row) == times else NoRow


def row_of_figures(figures):
    """A row of the times 3 whose greatest number has so many figures."""
    row = turning_rows(3, [1, 1, 1])[-1]
    while len(str(row[-1])) < figures:
        row = swapped(3, row, 1)[0]
    while len(str(row[-1])) > figures:
        row = swapped(3, row, 2)[0]
    return row


class NotesCase(unittest.TestCase):
    def refused(self, text, error):
        with self.assertRaises(error, msg=repr(text)):
            read(text)

    def like_plain(self, text):
        right = plain_outcome(text)
        if right in (BadText, NoRow):
            self.refused(text, right)
        else:
            self.assertEqual(read(text), right, repr(text))


class Shown(NotesCase):
    def test_written_ones(self):
        self.assertEqual(shown(3, [1, 2, 5]), "3 x 1 2 5")
        self.assertEqual(shown(1, [3, 3, 3]), "1 x 3 3 3")
        self.assertEqual(shown(3, [1, 1, 1, 1, 2, 2]), "3 x 1 1 1 1 2 2")

    def test_against_the_plain_words(self):
        for times, row in all_rows():
            self.assertEqual(shown(times, row), plain_text(times, row))

    def test_no_row(self):
        for times, row in NO_ROWS:
            with self.assertRaises(NoRow):
                shown(times, row)

    def test_one_number_away_from_a_long_row(self):
        for times, row in long_rows() + deep_rows():
            with self.assertRaises(NoRow):
                shown(times, row[:-1] + [row[-1] + 1])

    def test_kind(self):
        self.assertIs(type(shown(3, [1, 2, 5])), str)


class Read(NotesCase):
    def test_written_ones(self):
        self.assertEqual(read("3 x 1 2 5"), (3, [1, 2, 5]))
        self.assertEqual(read("3 x 1 1 1 1 2 2"), (3, [1, 1, 1, 1, 2, 2]))

    def test_each_reads_back_what_the_other_writes(self):
        for times, row in all_rows():
            self.assertEqual(read(shown(times, row)), (times, row))
        for text in GOOD:
            self.assertEqual(shown(read(text)[0], read(text)[1]), text)

    def test_kinds(self):
        told = read("3 x 1 2 5")
        self.assertIs(type(told), tuple)
        self.assertEqual(len(told), 2)
        self.assertIs(type(told[0]), int)
        self.assertIs(type(told[1]), list)
        self.assertTrue(all(type(number) is int for number in told[1]))

    def test_no_row_of_these_times(self):
        for text in ("3 x 1 2 4", "3 x 2 1 5", "3 x 5 2 1", "2 x 1 2 5", "33 x 1 2 5", "3 x 1 2 2 5",
                     "7 x 1 1 1 1 1 1", "1000 x 1 2 5", "3 x 1 2 50"):
            self.refused(text, NoRow)

    def test_other_forms(self):
        for text in ("", " ", "  ", "\n", "\t", "x", "3", "3 x", "3 x ", "x 1 2 5", "3 1 2 5", "1 2 5", "3x 1 2 5",
                     "3 x1 2 5", "3x1 2 5", "3 X 1 2 5", "3 xx 1 2 5", "3 x x 1 2 5", "3 * 1 2 5", "3 x 1, 2, 5",
                     "3 x 1,2,5", "3 x 1 2 five", "three x 1 2 5", "3 x [1, 2, 5]", "a x b c d", "1 3 x 2 5",
                     "3  1 2 5", "3 1 2 5 x", "x x x x x", "3 x 1 2 5 x", "3 x 1 2 x", "x 3 1 2 5"):
            self.refused(text, BadText)

    def test_blanks_tabs_and_line_ends(self):
        for text in GOOD:
            for at in range(len(text) + 1):
                for sign in (" ", "\t", "\n", "  ", "\n\n", " \n"):
                    self.like_plain(text[:at] + sign + text[at:])
            for sign in ("\t", "\n", "", "  "):
                self.refused(text.replace(" ", sign), BadText)
                self.refused(text.replace(" ", sign, 1), BadText)
            for ends in (" ", "\n", "\t"):
                self.refused(text + ends, BadText)
                self.refused(ends + text, BadText)

    def test_one_sign_more(self):
        for text in GOOD:
            for at in range(len(text) + 1):
                for sign in SIGNS:
                    self.like_plain(text[:at] + sign + text[at:])

    def test_one_sign_other(self):
        for text in GOOD:
            for at in range(len(text)):
                for sign in SIGNS:
                    self.like_plain(text[:at] + sign + text[at + 1:])

    def test_one_sign_less(self):
        for text in GOOD:
            for at in range(len(text)):
                self.like_plain(text[:at] + text[at + 1:])

    def test_one_word_other_more_or_less(self):
        for text in GOOD:
            words = text.split(" ")
            for at in range(len(words)):
                self.like_plain(" ".join(words[:at] + words[at + 1:]))
                for word in ("x", "1", "5", "0", "", "word", "-1", "+1", "1.0", "1e0", "1_0", "0x1", "01", "10"):
                    self.like_plain(" ".join(words[:at] + [word] + words[at + 1:]))
                    self.like_plain(" ".join(words[:at] + [word] + words[at:]))

    def test_signs_that_python_reads_as_part_of_a_number(self):
        for word in ("+5", "-5", "5_0", "5\n", "\t5", "5.", "5.0", "5e0", "0b1", "0x5", "--5", "5-"):
            self.refused(f"3 x 1 2 {word}", BadText)
            self.refused(f"{word} x 1 2 5", BadText)

    def test_noughts(self):
        for text in ("0 x 1 2 5", "3 x 0 2 5", "3 x 1 0 5", "3 x 1 2 0", "03 x 1 2 5", "3 x 01 2 5", "3 x 1 02 5",
                     "3 x 1 2 05", "3 x 1 2 00005", "00 x 1 2 5", "3 x 0 0 0", "3 x 00 0 0", "0 x 0 0 0"):
            self.refused(text, BadText)

    def test_two_to_seven_numbers(self):
        self.refused("2 x 1 1", BadText)
        for many in (3, 4, 5, 6):
            self.assertEqual(read(f"{many} x" + " 1" * many), (many, [1] * many))
        self.refused("7 x 1 1 1 1 1 1 1", BadText)
        self.refused("1 x 1", BadText)
        self.refused("1 x", BadText)
        self.refused("3 x" + " 1" * 1000, BadText)

    def test_times_of_1000_and_above(self):
        self.refused("1000 x 1 2 5", NoRow)
        self.refused("999 x 1 2 5", NoRow)
        for times in ("1001", "1002", "10000", "1" + "0" * 399, "9" * 400, "9" * 401):
            self.refused(f"{times} x 1 2 5", BadText)

    def test_a_row_with_a_number_of_400_figures(self):
        row = row_of_figures(400)
        self.assertEqual(len(str(row[-1])), 400)
        self.assertEqual(read(plain_text(3, row)), (3, row))
        self.assertEqual(read(shown(3, row)), (3, row))

    def test_a_row_with_a_number_of_401_figures(self):
        row = row_of_figures(401)
        self.assertEqual(len(str(row[-1])), 401)
        self.refused(plain_text(3, row), BadText)
        self.assertEqual(shown(3, row), plain_text(3, row))

    def test_numbers_of_400_and_401_figures_at_each_place(self):
        for text in GOOD:
            words = text.split(" ")
            for at in range(2, len(words)):
                self.refused(" ".join(words[:at] + ["7" * 400] + words[at + 1:]), NoRow)
                self.refused(" ".join(words[:at] + ["7" * 401] + words[at + 1:]), BadText)
        self.refused("3 x" + (" " + "9" * 400) * 6, NoRow)

    def test_texts_of_2500_signs(self):
        for sign in SIGNS:
            self.refused(sign * 2500, BadText)
            self.refused(("3 x 1 2 " + sign * 2500)[:2500], BadText)
        self.refused(("3 x" + " 1" * 2500)[:2500], BadText)
        self.refused("3 x 1 2 5" + " " * 2491, BadText)
        self.refused("9" * 2491 + " x 1 2 5", BadText)

    def test_bad_text_goes_ahead_of_no_row(self):
        for text in ("1001 x 1 2 4", "3 x 1 2 04", "03 x 1 2 4", "3 x 2 1 0", "3 x 4 4", "3 x 1 1 1 1 1 1 2",
                     "3 x 1 2 4 ", "3 x 1 2 4\n", "3 x 5 2 " + "1" * 401, "3 x 9 8 -7", "2 X 1 2 5"):
            self.refused(text, BadText)

    def test_lists_that_are_no_rows(self):
        for times, row in NO_ROWS:
            error = NoRow if times >= 1 and min(row) >= 1 else BadText
            self.refused(plain_text(times, row), error)


class NothingHangsOnWhatIsHandedIn(NotesCase):
    def test_nothing_handed_in_is_changed(self):
        for times, row in all_rows():
            before = list(row)
            shown(times, row)
            self.assertEqual(row, before)
        for times, row in NO_ROWS:
            before = list(row)
            with self.assertRaises(NoRow):
                shown(times, row)
            self.assertEqual(row, before)

    def test_a_told_list_may_be_changed(self):
        told = read("3 x 1 2 5")
        told[1].append(9)
        told[1][0] = 0
        self.assertEqual(read("3 x 1 2 5"), (3, [1, 2, 5]))

    def test_a_handed_in_list_may_be_changed_later(self):
        row = [1, 2, 5]
        self.assertEqual(shown(3, row), "3 x 1 2 5")
        row[0] = 13
        with self.assertRaises(NoRow):
            shown(3, row)
        self.assertEqual(shown(3, sorted([1, 5, 13])), "3 x 1 5 13")
        self.assertEqual(shown(3, [1, 2, 5]), "3 x 1 2 5")

    def test_written_starts(self):
        for times, root in STARTS:
            self.assertEqual(read(shown(times, root)), (times, root))


if __name__ == "__main__":
    unittest.main()
