import unittest

from fewterms.lamps import all_settings, is_count, is_lit, is_setting
from things import COUNTS, lit_lamps, no_numbers


class Lamps(unittest.TestCase):
    def test_there_are_one_to_five_lamps(self):
        for thing in range(-3, 40):
            self.assertIs(is_count(thing), thing in COUNTS)
        for thing in no_numbers():
            self.assertIs(is_count(thing), False)

    def test_settings_are_from_0_on_below_2_to_the_count(self):
        for many in COUNTS:
            for thing in range(-3, 70):
                self.assertIs(is_setting(thing, many), 0 <= thing < 2 ** many)
            for thing in no_numbers() + [10 ** 3000, -10 ** 3000]:
                self.assertIs(is_setting(thing, many), False)
            self.assertEqual(all_settings(many), list(range(2 ** many)))

    def test_lamp_k_is_lit_where_its_bit_is_1(self):
        for setting in range(32):
            for lamp in range(5):
                self.assertIs(is_lit(setting, lamp), lamp in lit_lamps(setting))


if __name__ == "__main__":
    unittest.main()
