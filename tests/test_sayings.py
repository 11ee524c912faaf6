import unittest
from itertools import permutations

from fewterms import sayings
from fewterms.errors import BadCount, BadRows, BadTerm, TermError
from fewterms.sayings import Saying
from things import (
    COUNTS, Hostile, HostileNumber, expected_has, no_lists, no_numbers, no_texts, sayings_of, terms_of,
)

NO_SETTINGS_OF_2 = (-1, 4, 5, 10 ** 3000, -10 ** 3000, True, False, 1.0, None, "1", "", b"1", [1], (1,))


def told(saying):
    return saying.many(), saying.on(), saying.free(), saying.off()


class Told(unittest.TestCase):
    def test_each_saying_of_one_and_two_lamps(self):
        for many in (1, 2):
            for on, free, off in sayings_of(many):
                self.assertEqual(told(Saying(many, on, free)), (many, on, free, off))

    def test_some_of_more_lamps(self):
        for many in (3, 4, 5):
            everything = list(range(2 ** many))
            for step in (1, 2, 3, 7):
                on = everything[::step]
                free = [setting for setting in everything[::2] if setting not in on]
                off = [setting for setting in everything if setting not in on + free]
                self.assertEqual(told(Saying(many, on, free)), (many, on, free, off))

    def test_all_on_all_free_all_off(self):
        for many in COUNTS:
            everything = list(range(2 ** many))
            self.assertEqual(told(Saying(many, everything)), (many, everything, [], []))
            self.assertEqual(told(Saying(many, [], everything)), (many, [], everything, []))
            self.assertEqual(told(Saying(many, [])), (many, [], [], everything))

    def test_lists_are_told_rising_whatever_the_order(self):
        for on in permutations([0, 3, 6, 7]):
            self.assertEqual(told(Saying(3, list(on), [5, 1])), (3, [0, 3, 6, 7], [1, 5], [2, 4]))
            self.assertEqual(told(Saying(3, [5, 1], list(on))), (3, [1, 5], [0, 3, 6, 7], [2, 4]))

    def test_each_is_told_as_a_list(self):
        saying = Saying(2, [1], [2])
        self.assertIs(type(saying.many()), int)
        for rows in (saying.on(), saying.free(), saying.off()):
            self.assertIs(type(rows), list)

    def test_none_free(self):
        expected = (2, [1, 2], [], [0, 3])
        self.assertEqual(told(Saying(2, [2, 1])), expected)
        self.assertEqual(told(Saying(2, [2, 1], None)), expected)
        self.assertEqual(told(Saying(2, [2, 1], [])), expected)

    def test_the_arguments_have_their_names(self):
        self.assertEqual(told(Saying(many=2, on=[3], free=[0])), (2, [3], [0], [1, 2]))
        self.assertEqual(told(Saying(free=None, on=[3], many=2)), (2, [3], [], [0, 1, 2]))

    def test_the_methods_are_the_class_own(self):
        self.assertEqual(Saying.__module__, sayings.__name__)
        for name in ("many", "on", "free", "off", "is_good"):
            self.assertIn(name, vars(Saying))


class Kept(unittest.TestCase):
    def test_lists_handed_in_stay_as_they_were(self):
        on, free = [6, 0, 3], [5, 1]
        Saying(3, on, free).is_good("---")
        self.assertEqual((on, free), ([6, 0, 3], [5, 1]))

    def test_lists_handed_in_stay_as_they_were_where_they_are_refused(self):
        on, free = [6, 0, 3], [5, 6]
        self.assertRaises(BadRows, Saying, 3, on, free)
        self.assertEqual((on, free), ([6, 0, 3], [5, 6]))

    def test_changing_them_behind_changes_nothing_told(self):
        on, free = [0, 3, 6], [1, 5]
        saying = Saying(3, on, free)
        on.append(2)
        del on[0]
        free.clear()
        self.assertEqual(told(saying), (3, [0, 3, 6], [1, 5], [2, 4, 7]))
        self.assertIs(saying.is_good("000"), True)
        self.assertIs(saying.is_good("010"), False)

    def test_changing_what_was_told_changes_nothing_told_later(self):
        saying = Saying(3, [0, 3, 6], [1, 5])
        for rows in (saying.on(), saying.free(), saying.off()):
            rows.reverse()
            rows.append(99)
            del rows[0]
        self.assertEqual(told(saying), (3, [0, 3, 6], [1, 5], [2, 4, 7]))
        self.assertIs(saying.is_good("010"), False)
        self.assertIs(saying.is_good("101"), True)

    def test_nothing_asked_later_changes_what_was_told(self):
        saying = Saying(2, [1], [2])
        on, free, off = saying.on(), saying.free(), saying.off()
        for rows in (saying.on(), saying.free(), saying.off()):
            rows.clear()
        saying.is_good("11")
        self.assertEqual((on, free, off), ([1], [2], [0, 3]))

    def test_two_sayings_keep_apart(self):
        rows = [1]
        one, other = Saying(2, rows, [2]), Saying(2, rows)
        one.on().append(3)
        self.assertEqual(told(one), (2, [1], [2], [0, 3]))
        self.assertEqual(told(other), (2, [1], [], [0, 2, 3]))


class IsGood(unittest.TestCase):
    def check(self, many, on, free, off):
        saying = Saying(many, on, free)
        for term in terms_of(many):
            expected = not any(expected_has(term, setting) for setting in off)
            self.assertIs(saying.is_good(term), expected, (on, free, term))

    def test_some_terms(self):
        saying = Saying(2, [1], [3])
        self.assertIs(saying.is_good("1-"), True)
        self.assertIs(saying.is_good("11"), True)
        self.assertIs(saying.is_good("--"), False)
        self.assertIs(saying.is_good("0-"), False)
        self.assertIs(saying.is_good("01"), False)

    def test_each_saying_of_one_and_two_lamps(self):
        for many in (1, 2):
            for on, free, off in sayings_of(many):
                self.check(many, on, free, off)

    def test_some_of_more_lamps(self):
        for many in (3, 4, 5):
            everything = list(range(2 ** many))
            for off in ([], [0], everything[-1:], everything[::3], everything[1::4], everything):
                rest = [setting for setting in everything if setting not in off]
                self.check(many, rest[::2], rest[1::2], off)

    def test_without_off_settings_each_term_is_good(self):
        saying = Saying(3, [0, 1, 2], [3, 4, 5, 6, 7])
        for term in terms_of(3):
            self.assertIs(saying.is_good(term), True)

    def test_bad_terms_of_any_kind(self):
        for many in COUNTS:
            for saying in (Saying(many, []), Saying(many, list(range(2 ** many)))):
                for thing in no_texts() + ["", "x" * many, "1" * (many - 1) + "2", "1" * (many - 1) + "\n"]:
                    self.assertRaises(BadTerm, saying.is_good, thing)

    def test_terms_of_another_number_of_lamps(self):
        for many in COUNTS:
            saying = Saying(many, [0])
            for other in range(8):
                if other != many:
                    for sign in "01-":
                        self.assertRaises(BadTerm, saying.is_good, sign * other)


class Refused(unittest.TestCase):
    def test_no_number_of_lamps(self):
        for thing in no_numbers() + [0, 6, -1, 7, 32, 10 ** 3000, -10 ** 3000]:
            self.assertRaises(BadCount, Saying, thing, [])
            self.assertRaises(BadCount, Saying, thing, [0], [])

    def test_no_list(self):
        for thing in no_lists():
            self.assertRaises(BadRows, Saying, 2, thing)
            self.assertRaises(BadRows, Saying, 2, thing, [])
            if thing is not None:
                self.assertRaises(BadRows, Saying, 2, [], thing)

    def test_no_setting_in_a_list(self):
        for thing in NO_SETTINGS_OF_2 + (Hostile(), HostileNumber(1)):
            for rows in ([thing], [0, thing], [thing, 0], [0, thing, 2]):
                self.assertRaises(BadRows, Saying, 2, rows)
                self.assertRaises(BadRows, Saying, 2, [], rows)

    def test_the_greatest_setting_for_each_number_of_lamps(self):
        for many in COUNTS:
            self.assertEqual(Saying(many, [2 ** many - 1]).on(), [2 ** many - 1])
            self.assertEqual(Saying(many, [], [2 ** many - 1]).free(), [2 ** many - 1])
            self.assertRaises(BadRows, Saying, many, [2 ** many])
            self.assertRaises(BadRows, Saying, many, [], [2 ** many])

    def test_a_setting_twice(self):
        for rows in ([0, 0], [1, 2, 1], [3, 0, 1, 2, 3]):
            self.assertRaises(BadRows, Saying, 2, rows)
            self.assertRaises(BadRows, Saying, 2, [], rows)

    def test_a_setting_on_and_free(self):
        self.assertRaises(BadRows, Saying, 2, [0], [0])
        self.assertRaises(BadRows, Saying, 2, [0, 1, 2], [3, 2])
        self.assertRaises(BadRows, Saying, 5, list(range(32)), [31])


class RefusedInOrder(unittest.TestCase):
    """Of two refusals that are due the first one told: many, on, free, one that is on and free."""

    def words_of(self, *handed):
        with self.assertRaises(BadRows) as caught:
            Saying(2, *handed)
        return str(caught.exception)

    def test_many_is_ahead_of_on_and_free(self):
        for many in (0, 6, True, "2", None):
            self.assertRaises(BadCount, Saying, many, None)
            self.assertRaises(BadCount, Saying, many, [0, 0])
            self.assertRaises(BadCount, Saying, many, [-1])
            self.assertRaises(BadCount, Saying, many, [], 3)
            self.assertRaises(BadCount, Saying, many, [], [0, 0])
            self.assertRaises(BadCount, Saying, many, [1], [1])

    def test_on_is_ahead_of_free(self):
        no_list, no_setting, twice = "no list", ["no setting"], [0, 0]
        for on in (no_list, no_setting, twice):
            for free in (no_list, no_setting, twice):
                self.assertEqual(self.words_of(on, free), self.words_of(on))

    def test_free_is_ahead_of_one_that_is_on_and_free(self):
        for free in ([0, "no setting"], [0, 0], [0, 4]):
            self.assertEqual(self.words_of([0], free), self.words_of([], free))
            self.assertNotEqual(self.words_of([0], free), self.words_of([0], [0]))

    def test_all_are_refusals(self):
        for handed in ((0, []), (2, None), (2, [], 3), (2, [1], [1])):
            self.assertRaises(TermError, Saying, *handed)
        self.assertRaises(TermError, Saying(2, []).is_good, "1")


if __name__ == "__main__":
    unittest.main()
