import unittest

from fewterms.terms import freed, has, is_term, laid, settings_of
from things import COUNTS, expected_has, no_texts, terms_of


def expected_laid(one, other):
    """Looked for among all terms: equal to both but at one lamp, where it has - and they 0 and 1."""
    for term in terms_of(len(one)):
        for lamp in range(len(one)):
            others_same = all(one[at] == other[at] == term[at] for at in range(len(one)) if at != lamp)
            if others_same and term[lamp] == "-" and {one[lamp], other[lamp]} == {"0", "1"}:
                return term
    return None


class IsTerm(unittest.TestCase):
    def test_good_terms(self):
        for many in COUNTS:
            for term in terms_of(many):
                self.assertIs(is_term(term, many), True)

    def test_a_sign_more_or_fewer(self):
        for many in COUNTS:
            for term in terms_of(many):
                for sign in "01-":
                    self.assertIs(is_term(term + sign, many), False)
                self.assertIs(is_term(term[1:], many), False)

    def test_another_sign_at_each_lamp(self):
        for many in COUNTS:
            for lamp in range(many):
                for sign in "2 +*xXoO_.,|~\n\t":
                    term = "0" * lamp + sign + "1" * (many - lamp - 1)
                    self.assertIs(is_term(term, many), False)

    def test_several_signs_are_no_sign(self):
        self.assertIs(is_term(["10"], 1), False)
        self.assertIs(is_term(["1", "0"], 2), False)
        self.assertIs(is_term("10-" * 1000, 3), False)
        self.assertIs(is_term("", 1), False)

    def test_anything(self):
        for many in COUNTS:
            for thing in no_texts():
                self.assertIs(is_term(thing, many), False)

    def test_what_has_as_many_items_is_no_term(self):
        for many in COUNTS:
            for thing in (["1"] * many, ("1",) * many, b"1" * many, {str(k): 1 for k in range(many)}):
                self.assertIs(is_term(thing, many), False)


class Has(unittest.TestCase):
    def test_the_sign_of_lamp_0_is_the_first(self):
        self.assertIs(has("10", 1), True)
        self.assertIs(has("10", 2), False)
        self.assertIs(has("0010-", 4), True)
        self.assertIs(has("0010-", 20), True)
        self.assertIs(has("0010-", 5), False)

    def test_each_term_and_each_setting(self):
        for many in COUNTS:
            for term in terms_of(many):
                for setting in range(2 ** many):
                    self.assertIs(has(term, setting), expected_has(term, setting), (term, setting))


class SettingsOf(unittest.TestCase):
    def test_some_terms(self):
        self.assertEqual(settings_of("-"), [0, 1])
        self.assertEqual(settings_of("-1"), [2, 3])
        self.assertEqual(settings_of("1--"), [1, 3, 5, 7])
        self.assertEqual(settings_of("00000"), [0])
        self.assertEqual(settings_of("11111"), [31])

    def test_each_term(self):
        for many in COUNTS:
            for term in terms_of(many):
                found = settings_of(term)
                self.assertIs(type(found), list)
                expected = [setting for setting in range(2 ** many) if expected_has(term, setting)]
                self.assertEqual(found, expected)
                self.assertEqual(len(found), 2 ** term.count("-"))

    def test_the_list_is_the_askers_own(self):
        found = settings_of("1--")
        found.reverse()
        found.append(99)
        self.assertEqual(settings_of("1--"), [1, 3, 5, 7])
        self.assertEqual(found, [7, 5, 3, 1, 99])


class Freed(unittest.TestCase):
    def test_some_terms(self):
        self.assertEqual(freed("10", 0), "-0")
        self.assertEqual(freed("10", 1), "1-")
        self.assertEqual(freed("-", 0), "-")

    def test_each_term_at_each_lamp(self):
        for many in COUNTS:
            for term in terms_of(many):
                for lamp in range(many):
                    signs = list(term)
                    signs[lamp] = "-"
                    self.assertEqual(freed(term, lamp), "".join(signs))


class Laid(unittest.TestCase):
    def both_ways(self, one, other, expected):
        self.assertEqual(laid(one, other), expected, (one, other))
        self.assertEqual(laid(other, one), expected, (other, one))

    def test_laid_together(self):
        self.both_ways("0", "1", "-")
        self.both_ways("010", "110", "-10")
        self.both_ways("01-", "00-", "0--")
        self.both_ways("1-010", "1-011", "1-01-")

    def test_alike(self):
        for many in COUNTS:
            for term in terms_of(many):
                self.both_ways(term, term, None)

    def test_one_has_either_and_the_other_not(self):
        self.both_ways("-", "1", None)
        self.both_ways("-", "0", None)
        self.both_ways("10-", "101", None)
        self.both_ways("1-0", "100", None)
        # Unlike at two lamps, of which one alone has 0 and 1.
        self.both_ways("1-0", "000", None)

    def test_unlike_at_two_lamps(self):
        self.both_ways("01", "10", None)
        self.both_ways("00", "11", None)
        self.both_ways("01-10", "11-11", None)

    def test_of_another_number_of_lamps(self):
        self.both_ways("1", "0-", None)
        self.both_ways("1-", "1-0", None)

    def test_each_two_terms(self):
        for many in (1, 2, 3):
            for one in terms_of(many):
                for other in terms_of(many):
                    self.assertEqual(laid(one, other), expected_laid(one, other), (one, other))

    def test_each_term_with_each_one_unlike_at_one_lamp(self):
        for many in (4, 5):
            for term in terms_of(many):
                for lamp in range(many):
                    ahead, behind = term[:lamp], term[lamp + 1:]
                    self.both_ways(ahead + "0" + behind, ahead + "1" + behind, ahead + "-" + behind)
                    self.both_ways(ahead + "-" + behind, ahead + "1" + behind, None)
                    self.both_ways(ahead + "0" + behind, ahead + "-" + behind, None)


if __name__ == "__main__":
    unittest.main()
