"""What holds over the whole program."""

import unittest

from fewterms.fewest import fewest, shown
from fewterms.notes import note_of, saying_of
from fewterms.sayings import Saying
from fewterms.tellings import is_telling, trimmed
from fewterms.wholes import grown, is_whole, wholes
from things import sayings_of, some_sayings_of, terms_of

TURNED_SIGN = {"0": "1", "1": "0", "-": "-"}


def turned_setting(setting, lamp):
    return setting ^ 2 ** lamp


def turned_term(term, lamp):
    return term[:lamp] + TURNED_SIGN[term[lamp]] + term[lamp + 1:]


def exchanged_setting(setting, one, other):
    if setting >> one & 1 == setting >> other & 1:
        return setting
    return setting ^ 2 ** one ^ 2 ** other


def exchanged_term(term, one, other):
    signs = list(term)
    signs[one], signs[other] = signs[other], signs[one]
    return "".join(signs)


def some_sayings(with_five=True):
    for many in (1, 2):
        for on, free, off in sayings_of(many):
            yield many, on, free, off
    for many, count in ((3, 80), (4, 30), (5, 12 if with_five else 0)):
        for on, free, off in some_sayings_of(many, count):
            yield many, on, free, off


class Told(unittest.TestCase):
    def test_with_a_lamp_told_the_other_way_about(self):
        for many, on, free, off in some_sayings():
            saying = Saying(many, on, free)
            for lamp in range(many):
                turned = Saying(many, [turned_setting(s, lamp) for s in on], [turned_setting(s, lamp) for s in free])
                expected = sorted(turned_term(term, lamp) for term in wholes(saying))
                self.assertEqual(wholes(turned), expected, (many, on, free, lamp))
                self.assertEqual(len(fewest(turned)), len(fewest(saying)), (many, on, free, lamp))

    def test_with_two_lamps_exchanged(self):
        for many, on, free, off in some_sayings():
            saying = Saying(many, on, free)
            for one in range(many):
                for other in range(one):
                    exchanged = Saying(
                        many,
                        [exchanged_setting(s, one, other) for s in on],
                        [exchanged_setting(s, one, other) for s in free],
                    )
                    expected = sorted(exchanged_term(term, one, other) for term in wholes(saying))
                    self.assertEqual(wholes(exchanged), expected, (many, on, free, one, other))
                    self.assertEqual(len(fewest(exchanged)), len(fewest(saying)), (many, on, free, one, other))

    def test_with_a_setting_made_free_no_more_are_wanted(self):
        for many, on, free, off in some_sayings():
            count = len(fewest(Saying(many, on, free)))
            for setting in on + off:
                fewer_on = [one for one in on if one != setting]
                freer = Saying(many, fewer_on, free + [setting])
                self.assertLessEqual(len(fewest(freer)), count, (many, on, free, setting))

    def test_wholes_and_fewest_are_tellings(self):
        for many, on, free, off in some_sayings():
            saying = Saying(many, on, free)
            self.assertIs(is_telling(saying, wholes(saying)), True)
            self.assertIs(is_telling(saying, fewest(saying)), True)
            self.assertEqual(trimmed(saying, fewest(saying)), fewest(saying))
            self.assertGreaterEqual(len(trimmed(saying, wholes(saying))), len(fewest(saying)))

    def test_each_good_term_grows_to_a_whole_one(self):
        for many, on, free, off in some_sayings():
            saying = Saying(many, on, free)
            for term in terms_of(many):
                if saying.is_good(term):
                    self.assertIs(is_whole(saying, grown(saying, term)), True)

    def test_a_saying_read_back_is_told_as_the_first_one(self):
        for many, on, free, off in some_sayings():
            saying = Saying(many, on, free)
            back = saying_of(note_of(saying))
            self.assertEqual((wholes(back), fewest(back), shown(back)), (wholes(saying), fewest(saying), shown(saying)))

    def test_asking_changes_no_saying_and_nothing_told_before(self):
        for many, on, free, off in some_sayings(with_five=False):
            saying = Saying(many, on, free)
            asked = [saying.on, saying.free, saying.off] + [
                lambda function=function: function(saying) for function in (wholes, fewest, shown, note_of)
            ] + [lambda: trimmed(saying, wholes(saying))]
            first = [ask() for ask in asked]
            second = [ask() for ask in asked]
            self.assertEqual(first, second)
            for told in second:
                if type(told) is list:
                    told.append("??")
            self.assertEqual(first, [ask() for ask in asked])


if __name__ == "__main__":
    unittest.main()
