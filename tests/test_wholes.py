import unittest

from fewterms import wholes as wholes_file
from fewterms.errors import BadTerm
from fewterms.sayings import Saying
from fewterms.terms import mask_had
from fewterms.wholes import DIGITS, grown, is_whole, whole_terms, wholes
from things import COUNTS, expected_wholes, had, no_texts, sayings_of, some_sayings_of, terms_of


def no_terms_of(many):
    """Things of any kind that are no terms of so many lamps."""
    others = [sign * count for sign in "-01" for count in range(8) if count != many]
    wrong_signs = ["1" * (many - 1) + sign for sign in "2 +x*~\n\t"] + [" " + "1" * many, "1" * many + "\n"]
    return no_texts() + others + wrong_signs


class IsWhole(unittest.TestCase):
    def check(self, many, on, free, off):
        saying = Saying(many, on, free)
        expected = expected_wholes(many, off)
        for term in terms_of(many):
            self.assertIs(is_whole(saying, term), term in expected, (on, free, term))

    def test_some_terms(self):
        saying = Saying(3, [1, 3, 7], [5])
        self.assertIs(is_whole(saying, "1--"), True)
        self.assertIs(is_whole(saying, "11-"), False)
        self.assertIs(is_whole(saying, "---"), False)
        self.assertIs(is_whole(saying, "0--"), False)
        self.assertIs(is_whole(saying, "000"), False)

    def test_each_term_in_each_saying_of_one_and_two_lamps(self):
        for many in (1, 2):
            for on, free, off in sayings_of(many):
                self.check(many, on, free, off)

    def test_each_term_with_each_choice_of_off_settings_of_three_lamps(self):
        for on, none_free, off in sayings_of(3):
            if not none_free:
                self.check(3, on, [], off)
                self.check(3, [], on, off)
                self.check(3, on[::2], on[1::2], off)

    def test_each_term_in_some_sayings_of_more_lamps(self):
        for many in (4, 5):
            for on, free, off in some_sayings_of(many, 20):
                self.check(many, on, free, off)

    def test_a_term_with_free_settings_alone_may_be_whole(self):
        self.assertIs(is_whole(Saying(2, [], [2]), "01"), True)
        self.assertIs(is_whole(Saying(2, [], [0, 1, 2, 3]), "--"), True)
        self.assertIs(is_whole(Saying(2, [], [0, 1, 2, 3]), "-0"), False)

    def test_no_terms_of_any_kind(self):
        for many in COUNTS:
            for saying in (Saying(many, []), Saying(many, [], [0]), Saying(many, list(range(2 ** many)))):
                for thing in no_terms_of(many):
                    self.assertRaises(BadTerm, is_whole, saying, thing)

    def test_a_term_that_is_not_good_is_no_refusal(self):
        self.assertIs(is_whole(Saying(2, []), "11"), False)


class Wholes(unittest.TestCase):
    def check(self, many, on, free, off):
        found = wholes(Saying(many, on, free))
        self.assertIs(type(found), list)
        self.assertEqual(found, expected_wholes(many, off), (on, free))

    def test_some_sayings(self):
        self.assertEqual(wholes(Saying(2, [1], [2])), ["01", "10"])
        self.assertEqual(wholes(Saying(2, [1, 2], [3])), ["-1", "1-"])
        self.assertEqual(wholes(Saying(3, [1, 2, 3, 4, 5, 6])), ["-01", "-10", "0-1", "01-", "1-0", "10-"])

    def test_each_saying_of_one_two_and_three_lamps(self):
        for many in (1, 2, 3):
            for on, free, off in sayings_of(many):
                self.check(many, on, free, off)

    def test_some_sayings_of_more_lamps(self):
        for many in (4, 5):
            for on, free, off in some_sayings_of(many, 60):
                self.check(many, on, free, off)

    def test_they_rise_each_once(self):
        for on, free, off in some_sayings_of(5, 20):
            found = wholes(Saying(5, on, free))
            for one, next_one in zip(found, found[1:]):
                self.assertLess(one, next_one)

    def test_where_nothing_is_on(self):
        for many in COUNTS:
            self.assertEqual(wholes(Saying(many, [])), [])
            self.assertEqual(wholes(Saying(many, [], [0])), ["0" * many])
            self.assertEqual(wholes(Saying(many, [], list(range(2 ** many)))), ["-" * many])

    def test_where_all_is_on(self):
        for many in COUNTS:
            self.assertEqual(wholes(Saying(many, list(range(2 ** many)))), ["-" * many])

    def test_where_all_that_is_not_on_is_free(self):
        for many in COUNTS:
            everything = list(range(2 ** many))
            for on in ([0], everything[-1:], everything[::3], everything[1::2]):
                free = [setting for setting in everything if setting not in on]
                self.assertEqual(wholes(Saying(many, on, free)), ["-" * many])

    def test_changed_by_the_asker_and_asked_again(self):
        saying = Saying(2, [1, 2], [3])
        first = wholes(saying)
        first.reverse()
        first.append("??")
        second = wholes(saying)
        self.assertEqual(second, ["-1", "1-"])
        self.assertEqual(first, ["1-", "-1", "??"])
        self.assertEqual((saying.on(), saying.free(), saying.off()), ([1, 2], [3], [0]))


class WholeTerms(unittest.TestCase):
    def test_the_digits_of_the_places_of_terms(self):
        terms = terms_of(5)
        self.assertEqual(terms, sorted(terms))
        self.assertEqual(len(DIGITS), 5)
        for lamp, (worth, either) in enumerate(reversed(DIGITS)):
            self.assertEqual(worth, terms.index("-" * lamp + "0" + "-" * (4 - lamp)))
            self.assertEqual(either, sum(2 ** place for place, term in enumerate(terms) if term[lamp] == "-"))

    def test_each_comes_with_its_mask(self):
        for many in COUNTS:
            for on, free, off in some_sayings_of(many, 40):
                expected = [(mask_had(term), term) for term in expected_wholes(many, off)]
                self.assertEqual(whole_terms(Saying(many, on, free)), expected, (on, free))


class Grown(unittest.TestCase):
    def expected(self, term, off):
        """From the first lamp on, - where no off setting comes with it."""
        for lamp in range(len(term)):
            wider = term[:lamp] + "-" + term[lamp + 1:]
            if had(wider).isdisjoint(off):
                term = wider
        return term

    def check(self, many, on, free, off):
        saying = Saying(many, on, free)
        all_whole = expected_wholes(many, off)
        for term in terms_of(many):
            if had(term).isdisjoint(off):
                found = grown(saying, term)
                self.assertEqual(found, self.expected(term, off), (on, free, term))
                self.assertIn(found, all_whole)
            else:
                self.assertRaises(BadTerm, grown, saying, term)

    def test_from_the_first_lamp_on(self):
        # Each of the lamps alone could be freed, but not both.
        self.assertEqual(grown(Saying(2, [1, 2, 3]), "11"), "-1")
        self.assertEqual(grown(Saying(2, [1, 2, 3]), "10"), "1-")
        self.assertEqual(grown(Saying(3, [3, 2, 1, 7]), "110"), "-10")
        self.assertEqual(grown(Saying(3, [7, 3, 1, 5]), "111"), "1--")

    def test_free_settings_may_come_with_it(self):
        self.assertEqual(grown(Saying(2, [3], [1, 0, 2]), "11"), "--")
        self.assertEqual(grown(Saying(2, [], [1, 3]), "11"), "1-")

    def test_a_whole_term_stays(self):
        for on, free, off in some_sayings_of(4, 20):
            saying = Saying(4, on, free)
            for term in wholes(saying):
                self.assertEqual(grown(saying, term), term)

    def test_each_saying_of_one_and_two_lamps(self):
        for many in (1, 2):
            for on, free, off in sayings_of(many):
                self.check(many, on, free, off)

    def test_each_choice_of_off_settings_of_three_lamps(self):
        for on, none_free, off in sayings_of(3):
            if not none_free:
                self.check(3, on, [], off)
                self.check(3, on[1::2], on[::2], off)

    def test_some_sayings_of_more_lamps(self):
        for many in (4, 5):
            for on, free, off in some_sayings_of(many, 20):
                self.check(many, on, free, off)

    def test_a_term_that_is_not_good(self):
        self.assertRaises(BadTerm, grown, Saying(2, [1]), "-0")
        self.assertRaises(BadTerm, grown, Saying(2, [1]), "00")
        self.assertRaises(BadTerm, grown, Saying(2, []), "11")

    def test_no_terms_of_any_kind(self):
        for many in COUNTS:
            for saying in (Saying(many, []), Saying(many, [], [0]), Saying(many, list(range(2 ** many)))):
                for thing in no_terms_of(many):
                    self.assertRaises(BadTerm, grown, saying, thing)


class Interface(unittest.TestCase):
    def test_names_and_arguments(self):
        saying = Saying(1, [1])
        self.assertIs(is_whole(saying=saying, term="1"), True)
        self.assertEqual(wholes(saying=saying), ["1"])
        self.assertEqual(grown(saying=saying, term="1"), "1")
        for function in (is_whole, wholes, grown):
            self.assertEqual(function.__module__, wholes_file.__name__)


if __name__ == "__main__":
    unittest.main()
