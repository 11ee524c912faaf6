import unittest
from random import Random

from fewterms import notes as notes_file
from fewterms.errors import BadNote, TermError
from fewterms.notes import note_of, saying_of
from fewterms.sayings import Saying
from things import COUNTS, Hostile, HostileText, lit_lamps, no_texts, sayings_of, some_sayings_of


def expected_row(setting, many, word):
    lit = lit_lamps(setting)
    return "".join("1" if lamp in lit else "0" for lamp in range(many)) + " " + word


def all_rows(many, on, free, off):
    """A row for each setting, rising."""
    words = {setting: word for word, rows in (("on", on), ("free", free), ("off", off)) for setting in rows}
    return [expected_row(setting, many, words[setting]) for setting in range(2 ** many)]


def expected_note(many, on, free, off):
    rows = all_rows(many, on, free, off)
    if len(off) > len(on) + len(free):
        rows = [row for row in rows if not row.endswith("off")]
    return "\n".join(["lamps " + str(many)] + rows)


def told(saying):
    return saying.many(), saying.on(), saying.free(), saying.off()


def sayings_of_each_number():
    for many in (1, 2):
        for on, free, off in sayings_of(many):
            yield many, on, free, off
    for many in (3, 4, 5):
        for on, free, off in some_sayings_of(many, 60):
            yield many, on, free, off


class NoteOf(unittest.TestCase):
    def test_off_rows_stand_where_there_are_as_many_off_as_others(self):
        self.assertEqual(note_of(Saying(2, [1], [2])), "lamps 2\n00 off\n10 on\n01 free\n11 off")

    def test_off_rows_stand_where_there_are_fewer_off_than_others(self):
        self.assertEqual(note_of(Saying(2, [3, 1], [2])), "lamps 2\n00 off\n10 on\n01 free\n11 on")
        self.assertEqual(note_of(Saying(1, [0], [1])), "lamps 1\n0 on\n1 free")

    def test_off_rows_are_left_out_where_there_are_more_off_than_others(self):
        self.assertEqual(note_of(Saying(2, [1])), "lamps 2\n10 on")
        self.assertEqual(note_of(Saying(3, [6, 3], [4])), "lamps 3\n110 on\n001 free\n011 on")

    def test_free_ones_count_among_the_others(self):
        self.assertEqual(note_of(Saying(1, [], [1])), "lamps 1\n0 off\n1 free")
        self.assertEqual(note_of(Saying(2, [], [1])), "lamps 2\n10 free")

    def test_the_number_of_off_ones_at_which_they_are_left_out(self):
        for many in COUNTS:
            half = 2 ** many // 2
            for others in (half - 1, half, half + 1):
                for on in range(others + 1):
                    rows = note_of(Saying(many, list(range(on)), list(range(on, others)))).split("\n")
                    self.assertEqual(len(rows) - 1, others if others < half else 2 ** many)

    def test_all_off_all_on_all_free(self):
        for many in COUNTS:
            everything = list(range(2 ** many))
            self.assertEqual(note_of(Saying(many, [])), "lamps " + str(many))
            self.assertEqual(note_of(Saying(many, everything)), expected_note(many, everything, [], []))
            self.assertEqual(note_of(Saying(many, [], everything)), expected_note(many, [], everything, []))

    def test_sayings_of_each_number_of_lamps(self):
        for many, on, free, off in sayings_of_each_number():
            saying = Saying(many, on, free)
            self.assertEqual(note_of(saying), expected_note(many, on, free, off))
            self.assertEqual(told(saying), (many, on, free, off))

    def test_no_line_end_behind_the_last_row(self):
        for many, on, free, off in sayings_of_each_number():
            note = note_of(Saying(many, on, free))
            self.assertIs(type(note), str)
            self.assertFalse(note.endswith("\n") or note.startswith("\n") or "\n\n" in note)


class SayingOf(unittest.TestCase):
    def test_each_note_read_back(self):
        for many, on, free, off in sayings_of_each_number():
            found = saying_of(note_of(Saying(many, on, free)))
            self.assertIs(type(found), Saying)
            self.assertEqual(told(found), (many, on, free, off))

    def test_rows_behind_the_first_in_any_order_off_ones_there_or_not(self):
        chosen = Random(1)
        for many, on, free, off in sayings_of_each_number():
            rows = all_rows(many, on, free, off)
            chosen.shuffle(rows)
            some_off = [row for row in rows if not row.endswith("off") or chosen.random() < 0.5]
            none_off = [row for row in rows if not row.endswith("off")]
            for handed in (rows, some_off, none_off):
                found = saying_of("\n".join(["lamps " + str(many)] + handed))
                self.assertEqual(told(found), (many, on, free, off))

    def test_a_setting_without_a_row_is_off(self):
        for many in COUNTS:
            self.assertEqual(told(saying_of(f"lamps {many}")), (many, [], [], list(range(2 ** many))))
        self.assertEqual(told(saying_of("lamps 2\n11 on\n10 free")), (2, [3], [1], [0, 2]))
        self.assertEqual(told(saying_of("lamps 2\n11 on\n01 off\n10 free")), (2, [3], [1], [0, 2]))

    def test_what_is_told_is_the_askers_own(self):
        text = "lamps 2\n11 on\n10 free"
        first = saying_of(text)
        first.on().clear()
        first.free().append(0)
        self.assertEqual(told(first), (2, [3], [1], [0, 2]))
        self.assertEqual(told(saying_of(text)), (2, [3], [1], [0, 2]))


class Refused(unittest.TestCase):
    def row_of(self, thing):
        with self.assertRaises(BadNote) as caught:
            saying_of(thing)
        self.assertIsInstance(caught.exception, TermError)
        self.assertIs(type(caught.exception.row), int)
        return caught.exception.row

    def test_no_text_of_any_kind(self):
        for thing in no_texts() + [Hostile(), HostileText("lamps 1"), b"lamps 1", ["lamps 1"], Saying(1, [])]:
            if type(thing) is not str:
                self.assertEqual(self.row_of(thing), 1)

    def test_a_first_row_without_a_good_number(self):
        wrong = [
            "", " ", "lamps", "lamps ", "lamps 0", "lamps 6", "lamps 7", "lamps 10", "lamps 11", "lamps 32", "lamps -1",
            "lamps +1", "lamps 01", "lamps 1.0", "lamps 1 ", " lamps 1", "lamps  1", "lamps1", "lamps\t1", "Lamps 1",
            "lamp 1", "lamps one", "lamps True", "lamps 1 1", "lamps 1_", "lamps 1\r", "lamps: 1", "1", "1 lamps",
            "0 on", "lamps " + "9" * 3000, "lamps 1,", "lamps\\n1",
        ]
        for row in wrong:
            self.assertEqual(self.row_of(row), 1)
            self.assertEqual(self.row_of(row + "\n0 on"), 1)
            self.assertEqual(self.row_of(row + "\nno row"), 1)
            self.assertEqual(self.row_of("\n" + row), 1)
            self.assertEqual(self.row_of(row + "\nlamps 1"), 1)

    def wrong_rows(self, many):
        for setting in range(2 ** many):
            good = expected_row(setting, many, "on")
            signs = good[:many]
            yield from (good[1:], "0" + good, "1" + good, signs[:-1] + " on", signs + "0 on", signs + "1 on")
            for lamp in range(many):
                for sign in "-2x+* ":
                    yield good[:lamp] + sign + good[lamp + 1:]
            yield from (signs + "  on", " " + good, good + " ", signs + "on")
            yield from (signs + "\ton", signs + "\x0bon", good + "\r")
            words = ("", "o", "onn", "of", "offf", "fre", "frei", "On", "ON", "Off", "lit", "1", "0", "None", "on on")
            yield from (signs + " " + word for word in words)
            yield from (signs, signs + ":on", "on " + signs, good + " off", f"{setting + 2} on")
        yield from ("", " ", "on", " on", "lamps", f"lamps {many}", "\r", "\t", "no row", "#", "- on")

    def test_rows_that_are_none(self):
        for many in COUNTS:
            first, before = f"lamps {many}", expected_row(0, many, "free")
            for row in self.wrong_rows(many):
                for text, at in (
                    (f"{first}\n{row}", 2), (f"{first}\n{row}\n{before}", 2), (f"{first}\n{before}\n{row}", 3),
                ):
                    self.assertEqual(self.row_of(text), at, text)

    def test_an_empty_row_or_a_line_end_behind_the_last(self):
        self.assertEqual(self.row_of("lamps 1\n"), 2)
        self.assertEqual(self.row_of("lamps 1\n0 on\n"), 3)
        self.assertEqual(self.row_of("lamps 1\n0 on\n\n"), 3)
        self.assertEqual(self.row_of("lamps 1\n\n0 on"), 2)
        self.assertEqual(self.row_of("lamps 1\n0 on\n\n1 on"), 3)
        self.assertEqual(self.row_of("\nlamps 1\n0 on"), 1)
        self.assertEqual(self.row_of("lamps 1\r\n0 on"), 1)
        self.assertEqual(self.row_of("lamps 1\n0 on\r\n1 on"), 2)
        for many, on, free, off in sayings_of_each_number():
            note = note_of(Saying(many, on, free))
            self.assertEqual(self.row_of(note + "\n"), note.count("\n") + 2)

    def test_a_setting_of_which_a_row_ahead_tells(self):
        for first_word in ("on", "off", "free"):
            for word in ("on", "off", "free"):
                self.assertEqual(self.row_of(f"lamps 1\n0 {first_word}\n0 {word}"), 3)
                self.assertEqual(self.row_of(f"lamps 2\n10 {first_word}\n01 off\n00 on\n10 {word}\n11 on"), 5)
        for many in COUNTS:
            rows = all_rows(many, [], list(range(2 ** many)), [])
            for place, row in enumerate(rows):
                again = ["lamps " + str(many)] + rows + [row]
                self.assertEqual(self.row_of("\n".join(again)), len(rows) + 2)
                beside = ["lamps " + str(many)] + rows[:place] + [row] + rows[place:]
                self.assertEqual(self.row_of("\n".join(beside)), place + 3)

    def test_the_first_of_several_wrong_rows(self):
        self.assertEqual(self.row_of("lamps 6\n0 on\n0 on\nno row"), 1)
        self.assertEqual(self.row_of("lamps 1\n0 on\n0 on\nno row"), 3)
        self.assertEqual(self.row_of("lamps 1\n0 on\nno row\n0 on"), 3)
        self.assertEqual(self.row_of("lamps 1\nno row\n0 on\n0 on\n"), 2)
        self.assertEqual(self.row_of("lamps 1\n0 on\n1 on\n1 off\n0 lit\n"), 4)
        self.assertEqual(self.row_of("lamps 2\n00 on\n10 on\n000 on\n10 on\n"), 4)

    def test_a_setting_of_another_number_of_lamps(self):
        for many in COUNTS:
            for other in COUNTS:
                if other != many:
                    self.assertEqual(self.row_of(f"lamps {many}\n{'0' * many} on\n{'1' * other} on"), 3)


class Interface(unittest.TestCase):
    def test_names_and_arguments(self):
        self.assertEqual(note_of(saying=Saying(1, [1])), "lamps 1\n0 off\n1 on")
        self.assertEqual(told(saying_of(text="lamps 1\n1 on")), (1, [1], [], [0]))
        for function in (note_of, saying_of):
            self.assertEqual(function.__module__, notes_file.__name__)


if __name__ == "__main__":
    unittest.main()
