import unittest
from itertools import permutations

from fewterms import tellings as tellings_file
from fewterms.errors import BadTelling
from fewterms.sayings import Saying
from fewterms.tellings import is_telling, trimmed
from things import COUNTS, Hostile, HostileText, had, no_lists, no_texts, sayings_of, some_sayings_of, tells, terms_of


def good_terms(many, off):
    return [term for term in terms_of(many) if had(term).isdisjoint(off)]


def expected_trimmed(terms, on):
    """Gone through by places: each is taken without which the others that are left tell the saying."""
    left = list(range(len(terms)))
    for place in range(len(terms)):
        others = [other for other in left if other != place]
        if tells([terms[other] for other in others], on):
            left = others
    return [terms[place] for place in left]


def itself_within():
    rows = []
    rows.append(rows)
    return rows


class IsTelling(unittest.TestCase):
    def test_good_terms_that_have_all_that_is_on(self):
        saying = Saying(2, [1, 2], [3])
        for terms in (["1-", "-1"], ["-1", "1-"], ["10", "01"], ["10", "11", "01", "10"], ["1-", "1-", "01"]):
            self.assertIs(is_telling(saying, terms), True, terms)

    def test_one_on_setting_left_out(self):
        saying = Saying(2, [1, 2], [3])
        for terms in ([], ["1-"], ["01"], ["11"], ["-1", "11"], ["10", "10"]):
            self.assertIs(is_telling(saying, terms), False, terms)

    def test_one_term_that_is_not_good(self):
        saying = Saying(2, [1, 2], [3])
        for place in range(3):
            for term in ("--", "-0", "0-", "00"):
                terms = ["10", "01"]
                terms.insert(place, term)
                self.assertIs(is_telling(saying, terms), False, terms)

    def test_where_nothing_is_on(self):
        for many in COUNTS:
            self.assertIs(is_telling(Saying(many, []), []), True)
            self.assertIs(is_telling(Saying(many, [], [0]), []), True)
            self.assertIs(is_telling(Saying(many, [], [0]), ["0" * many]), True)
            self.assertIs(is_telling(Saying(many, [], [0]), ["1" * many]), False)
            self.assertIs(is_telling(Saying(many, []), ["0" * many]), False)
            self.assertIs(is_telling(Saying(many, [0]), []), False)

    def test_each_saying_and_each_two_terms_of_one_and_two_lamps(self):
        for many in (1, 2):
            for on, free, off in sayings_of(many):
                saying = Saying(many, on, free)
                for one in terms_of(many):
                    for other in terms_of(many):
                        terms = [one, other]
                        expected = (had(one) | had(other)).isdisjoint(off) and tells(terms, on)
                        self.assertIs(is_telling(saying, terms), expected, (on, free, terms))

    def test_some_sayings_of_more_lamps(self):
        for many in (3, 4, 5):
            for on, free, off in some_sayings_of(many, 30):
                saying = Saying(many, on, free)
                terms = good_terms(many, off)
                self.assertIs(is_telling(saying, terms), True)
                for setting in on:
                    fewer = [term for term in terms if setting not in had(term)]
                    self.assertIs(is_telling(saying, fewer), False)

    def test_no_lists_of_any_kind(self):
        for many in COUNTS:
            for saying in (Saying(many, []), Saying(many, [1]), Saying(many, list(range(2 ** many)))):
                for thing in no_lists() + ["-" * many, ("-" * many,), {"-" * many: True}, {"-" * many}]:
                    self.assertIs(is_telling(saying, thing), False)

    def test_lists_with_no_terms_of_any_kind(self):
        for many in COUNTS:
            saying, whole = Saying(many, list(range(2 ** many))), "-" * many
            for thing in no_texts() + ["", whole + "-", whole[1:], "x" * many, "1" * (many - 1) + "\n", [whole]]:
                for terms in ([thing], [whole, thing], [thing, whole], [whole, thing, whole]):
                    self.assertIs(is_telling(saying, terms), False)
        self.assertIs(is_telling(Saying(1, []), itself_within()), False)

    def test_the_list_handed_in_stays(self):
        terms = ["11", "1-", "-1", "11"]
        is_telling(Saying(2, [1, 2], [3]), terms)
        self.assertEqual(terms, ["11", "1-", "-1", "11"])


class Trimmed(unittest.TestCase):
    def check(self, many, on, free, terms):
        handed = list(terms)
        found = trimmed(Saying(many, on, free), handed)
        self.assertIs(type(found), list)
        self.assertEqual(found, expected_trimmed(terms, on), (on, free, terms))
        self.assertEqual(handed, terms)
        self.assertTrue(tells(found, on))
        for place in range(len(found)):
            self.assertFalse(tells(found[:place] + found[place + 1:], on), (on, free, terms))

    def test_gone_through_from_the_first_term_on(self):
        saying = Saying(2, [1, 2, 3])
        self.assertEqual(trimmed(saying, ["11", "1-", "-1"]), ["1-", "-1"])
        self.assertEqual(trimmed(saying, ["10", "01", "1-", "-1"]), ["1-", "-1"])
        self.assertEqual(trimmed(saying, ["1-", "-1", "10", "01"]), ["-1", "10"])
        self.assertEqual(trimmed(saying, ["-1", "1-", "10", "01"]), ["1-", "01"])
        self.assertEqual(trimmed(Saying(1, [0, 1]), ["0", "-", "1"]), ["-"])
        self.assertEqual(trimmed(Saying(1, [0, 1]), ["-", "0", "1"]), ["0", "1"])

    def test_a_term_twice(self):
        self.assertEqual(trimmed(Saying(2, [1, 2]), ["10", "01", "10"]), ["01", "10"])
        self.assertEqual(trimmed(Saying(2, [1, 2]), ["10", "10", "01", "01"]), ["10", "01"])
        self.assertEqual(trimmed(Saying(1, [1]), ["1", "1", "1"]), ["1"])

    def test_nothing_to_take(self):
        for terms in (["1-", "01"], ["01", "1-"], ["10", "-1"]):
            self.assertEqual(trimmed(Saying(2, [1, 2, 3]), terms), terms)
        self.assertEqual(trimmed(Saying(2, [0, 1, 2, 3]), ["--"]), ["--"])

    def test_where_nothing_is_on(self):
        self.assertEqual(trimmed(Saying(2, []), []), [])
        self.assertEqual(trimmed(Saying(2, [], [1, 3]), []), [])
        self.assertEqual(trimmed(Saying(2, [], [1, 3]), ["1-", "10", "1-"]), [])

    def test_a_term_of_free_settings_alone_goes(self):
        self.assertEqual(trimmed(Saying(2, [1], [2]), ["10", "01"]), ["10"])
        self.assertEqual(trimmed(Saying(2, [1], [2]), ["01", "10"]), ["10"])

    def test_each_order_of_some_terms(self):
        for terms in permutations(["-01", "-10", "0-1", "01-", "1-0", "10-"]):
            self.check(3, [1, 2, 3, 4, 5, 6], [], list(terms))
        for terms in permutations(["1-", "-1", "11", "10", "01"]):
            self.check(2, [1, 2], [3], list(terms))

    def test_all_good_terms_of_each_saying_of_one_and_two_lamps(self):
        for many in (1, 2):
            for on, free, off in sayings_of(many):
                terms = good_terms(many, off)
                for handed in (terms, terms[::-1], terms + terms):
                    self.check(many, on, free, handed)

    def test_all_good_terms_of_some_sayings_of_more_lamps(self):
        for many, count in ((3, 60), (4, 30), (5, 6)):
            for on, free, off in some_sayings_of(many, count):
                terms = good_terms(many, off)
                for handed in (terms, terms[::-1], terms[1::2] + terms[::2]):
                    self.check(many, on, free, handed)

    def test_no_telling_of_any_kind(self):
        for many in COUNTS:
            for saying in (Saying(many, []), Saying(many, [1]), Saying(many, list(range(2 ** many)))):
                for thing in no_lists() + ["-" * many, ("-" * many,)]:
                    self.assertRaises(BadTelling, trimmed, saying, thing)
                for thing in no_texts() + ["", "-" * (many + 1), "x" * many, Hostile(), HostileText("-" * many)]:
                    self.assertRaises(BadTelling, trimmed, saying, [thing])
                    self.assertRaises(BadTelling, trimmed, saying, ["-" * many, thing])
        self.assertRaises(BadTelling, trimmed, Saying(1, []), itself_within())

    def test_lists_of_terms_that_are_no_telling(self):
        saying = Saying(2, [1, 2], [3])
        for terms in ([], ["1-"], ["-1", "11"], ["10", "01", "00"], ["--"], ["10", "01", "0-"]):
            handed = list(terms)
            self.assertRaises(BadTelling, trimmed, saying, handed)
            self.assertEqual(handed, terms)

    def test_what_is_told_is_the_askers_own(self):
        saying, terms = Saying(2, [1, 2, 3]), ["1-", "-1"]
        found = trimmed(saying, terms)
        found.append("??")
        del found[0]
        self.assertEqual(terms, ["1-", "-1"])
        self.assertEqual(trimmed(saying, terms), ["1-", "-1"])
        self.assertEqual(found, ["-1", "??"])


class Interface(unittest.TestCase):
    def test_names_and_arguments(self):
        saying = Saying(1, [1])
        self.assertIs(is_telling(saying=saying, thing=["1"]), True)
        self.assertEqual(trimmed(saying=saying, terms=["1"]), ["1"])
        for function in (is_telling, trimmed):
            self.assertEqual(function.__module__, tellings_file.__name__)


if __name__ == "__main__":
    unittest.main()
