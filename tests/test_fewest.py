import time
import unittest

from fewterms import fewest as fewest_file
from fewterms.fewest import fewest, shown
from fewterms.sayings import Saying
from things import (
    COUNTS, expected_how_many, expected_wholes, had, sayings_of, some_sayings_of, split, tells, terms_of,
)
from trees import wrong_in

# Sayings of 5 lamps over which a search, or a tree, becomes great: for each setting 0 (off), 1 (on) or 2 (free).
HARD = (
    "11111001021111111110011121111110",
    "11111001011111110111111111101001",
    "11111110022111111001011111121110",
    "20111201112121102221211011020221",
    "10211111110110212122021010211111",
    "21121022112012010221211012122022",
    "21221021220221222210012210112210",
    "01101221120120121021210201102221",
    "21111110100101110111111111101011",
    "01111111111111111111111111111110",
)


def kinds_of(signs):
    return split([("off", "on", "free")[int(sign)] for sign in signs])


def hard_sayings():
    return [kinds_of(signs) for signs in HARD]


class Checked(unittest.TestCase):
    def check(self, many, on, free, off, count=None):
        """Fewest and shown, held against the document; how many, too, where it is known by another way."""
        saying, whole = Saying(many, on, free), expected_wholes(many, off)
        terms, tree = fewest(saying), shown(saying)
        told = (many, on, free, terms, tree)
        self.assertIs(type(terms), list)
        self.assertEqual(terms, sorted(set(terms)), told)
        self.assertLessEqual(set(terms), set(whole), told)
        self.assertTrue(tells(terms, on), told)
        if count is not None:
            self.assertEqual(len(terms), count, told)
        if on:
            # A right tree for one term fewer is itself a proof that there are no fewer.
            self.assertIsNone(wrong_in(tree, on, len(terms) - 1, whole), told)
        else:
            self.assertEqual((terms, tree), ([], None), told)
        self.assertEqual((saying.on(), saying.free(), saying.off()), (on, free, off))
        return terms, tree

    def test_each_saying_of_one_two_and_three_lamps(self):
        for many in (1, 2, 3):
            for on, free, off in sayings_of(many):
                self.check(many, on, free, off, expected_how_many(many, on, off))

    def test_some_sayings_of_four_lamps(self):
        for on, free, off in some_sayings_of(4, 80):
            self.check(4, on, free, off, expected_how_many(4, on, off) if len(on) < 8 else None)

    def test_some_sayings_of_five_lamps(self):
        for on, free, off in some_sayings_of(5, 80):
            self.check(5, on, free, off)

    def test_hard_sayings_of_five_lamps(self):
        for on, free, off in hard_sayings():
            self.check(5, on, free, off)


class Fewest(unittest.TestCase):
    def test_some_sayings(self):
        self.assertEqual(fewest(Saying(2, [1])), ["10"])
        self.assertEqual(fewest(Saying(2, [1, 2], [3])), ["-1", "1-"])
        self.assertEqual(fewest(Saying(2, [1, 2])), ["01", "10"])
        self.assertEqual(len(fewest(Saying(3, [1, 2, 3, 4, 5, 6]))), 3)
        self.assertEqual(len(fewest(Saying(5, [s for s in range(32) if s.bit_count() % 2]))), 16)

    def test_a_free_setting_needs_no_term(self):
        self.assertEqual(fewest(Saying(2, [1], [2])), ["10"])

    def test_where_nothing_is_on(self):
        for many in COUNTS:
            everything = list(range(2 ** many))
            for free in ([], [0], everything[1:], everything):
                self.assertEqual(fewest(Saying(many, [], free)), [])

    def test_where_all_is_on_or_free(self):
        for many in COUNTS:
            everything = list(range(2 ** many))
            for count in (1, 2 ** many // 2, 2 ** many):
                self.assertEqual(fewest(Saying(many, everything[:count], everything[count:])), ["-" * many])

    def test_one_setting_alone_is_on(self):
        for many in COUNTS:
            for term in terms_of(many):
                if "-" not in term:
                    self.assertEqual(fewest(Saying(many, list(had(term)))), [term])

    def test_sayings_of_five_lamps_in_a_few_seconds(self):
        for on, free, off in hard_sayings():
            saying = Saying(5, on, free)
            for asked in (fewest, shown):
                start = time.process_time()
                asked(saying)
                self.assertLess(time.process_time() - start, 5, (asked, on, free))

    def test_the_same_each_time_also_where_it_was_changed(self):
        for on, free, off in list(some_sayings_of(4, 20)) + hard_sayings()[:3]:
            many = 5 if 16 in on + free + off else 4
            saying = Saying(many, on, free)
            first = fewest(saying)
            as_told = list(first)
            first.reverse()
            first.append("??")
            self.assertEqual(fewest(saying), as_told)
            self.assertEqual(first, as_told[::-1] + ["??"])
            # Between the two others were asked for; and the rows of this one come in another order.
            fewest(Saying(many, off, free))
            self.assertEqual(fewest(Saying(many, on[::-1], free[::-1])), as_told)


class Shown(unittest.TestCase):
    def test_none_where_nothing_is_on(self):
        for many in COUNTS:
            everything = list(range(2 ** many))
            for free in ([], [0], everything[1:], everything):
                self.assertIsNone(shown(Saying(many, [], free)))

    def test_where_one_term_is_enough(self):
        self.assertEqual(shown(Saying(2, [3])), ("apart", (3,)))
        for many in COUNTS:
            everything = list(range(2 ** many))
            name, settings = shown(Saying(many, everything))
            self.assertEqual((name, len(settings)), ("apart", 1))

    def test_two_apart(self):
        self.assertEqual(shown(Saying(2, [1, 2])), ("apart", (1, 2)))

    def test_a_saying_that_takes_a_choice(self):
        # Each two of the three have a whole term together, but all three of them have none.
        tree = shown(Saying(3, [0, 3, 5], [1, 2, 4, 7]))
        self.assertEqual(expected_wholes(3, [6]), ["--0", "-0-", "1--"])
        self.assertIn(tree, [
            ("choose", 0, (("--0", ("apart", (5,))), ("-0-", ("apart", (3,))))),
            ("choose", 3, (("--0", ("apart", (5,))), ("1--", ("apart", (0,))))),
            ("choose", 5, (("-0-", ("apart", (3,))), ("1--", ("apart", (0,))))),
        ])

    def test_it_is_made_of_tuples_texts_and_numbers_alone(self):
        def kinds(thing):
            if type(thing) is tuple:
                return set().union(*[kinds(part) for part in thing])
            return {type(thing)}

        for on, free, off in hard_sayings():
            self.assertLessEqual(kinds(shown(Saying(5, on, free))), {str, int})

    def test_the_same_each_time(self):
        for on, free, off in hard_sayings():
            saying = Saying(5, on, free)
            first = shown(saying)
            fewest(saying).clear()
            self.assertEqual(shown(saying), first)
            self.assertEqual(shown(Saying(5, on[::-1], free[::-1])), first)


class Trees(unittest.TestCase):
    """What the other tests hold trees against: it finds what is wrong in one."""

    def test_wrong_trees(self):
        on, whole = [1, 2, 3], ["-1", "1-"]
        apart = ("apart", (1, 2))
        choose = ("choose", 1, (("1-", ("apart", (2,))),))
        self.assertIsNone(wrong_in(apart, on, 1, whole))
        self.assertIsNone(wrong_in(choose, on, 1, whole))
        both = (("-1", ("apart", (1,))), ("1-", ("apart", (2,))))
        self.assertIsNone(wrong_in(("choose", 3, both), on, 1, whole))
        wrong = [
            None, [], list(apart), apart + (1,), choose[:2], ("other", (1, 2)), ("apart", [1, 2]), ("apart", (1,)),
            ("apart", (1, 1)), ("apart", (1, 3)), ("apart", (0, 1)), ("apart", (True, 2)), ("choose", 0, ()),
            ("choose", 1, ()), ("choose", 3, both[::-1]), ("choose", 3, both[:1]), ("choose", 3, list(both)),
            ("choose", 1, (("1-", ("apart", (1,))),)), ("choose", 1, (("1-", ("apart", ())),)),
        ]
        for tree in wrong:
            self.assertIsNotNone(wrong_in(tree, on, 1, whole), tree)
        self.assertIsNotNone(wrong_in(apart, on, 2, whole))
        self.assertIsNotNone(wrong_in(choose, on, 0, whole))


class Interface(unittest.TestCase):
    def test_names_and_arguments(self):
        self.assertEqual(fewest(saying=Saying(1, [1])), ["1"])
        self.assertEqual(shown(saying=Saying(1, [1])), ("apart", (1,)))
        for function in (fewest, shown):
            self.assertEqual(function.__module__, fewest_file.__name__)


if __name__ == "__main__":
    unittest.main()
