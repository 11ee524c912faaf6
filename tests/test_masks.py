import unittest

from fewterms.masks import how_many_in, lowest_in, mask_of, mask_of_all, settings_in
from fewterms.terms import mask_had
from things import COUNTS, had, sayings_of, some_sayings_of, terms_of


class Masks(unittest.TestCase):
    def test_some_masks(self):
        self.assertEqual(mask_of([]), 0)
        self.assertEqual(mask_of([0, 2, 3]), 13)
        self.assertEqual(mask_of([31]), 2 ** 31)
        self.assertEqual(settings_in(13), [0, 2, 3])
        self.assertEqual(settings_in(2 ** 31), [31])
        self.assertEqual((lowest_in(12), lowest_in(1), lowest_in(2 ** 31)), (2, 0, 31))
        self.assertEqual((how_many_in(0), how_many_in(13), how_many_in(2 ** 31)), (0, 3, 1))

    def test_settings_and_back(self):
        for many in COUNTS:
            for on, free, off in sayings_of(many) if many < 3 else some_sayings_of(many, 40):
                for settings in (on, free, off):
                    mask = mask_of(settings[::-1])
                    self.assertEqual(mask, sum(2 ** setting for setting in settings))
                    self.assertEqual(settings_in(mask), settings)
                    self.assertEqual(how_many_in(mask), len(settings))
                    if settings:
                        self.assertEqual(lowest_in(mask), settings[0])
                self.assertEqual(mask_of(on) + mask_of(free) + mask_of(off), mask_of_all(many))

    def test_the_mask_of_each_term(self):
        for many in COUNTS:
            for term in terms_of(many):
                self.assertEqual(mask_had(term), sum(2 ** setting for setting in had(term)), term)


if __name__ == "__main__":
    unittest.main()
