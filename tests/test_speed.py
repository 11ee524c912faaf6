"""Fewest and shown of many sayings: as they should be, and soon."""

import time
import unittest
from random import Random

from fewterms.fewest import fewest, shown
from fewterms.sayings import Saying
from fewterms.wholes import wholes
from things import expected_wholes, split, tells
from trees import wrong_in

# Two sayings of 5 lamps over which it once took long: what is on, and what is free.
LONG = (
    ([1, 2, 4, 5, 7, 8, 10, 12, 13, 14, 15, 16, 17, 18, 19, 20, 22, 23, 24, 25, 27, 28, 29, 30, 31], []),
    ([0, 1, 2, 3, 6, 7, 9, 11, 14, 20, 24, 25, 26, 27, 29], [15, 17, 22, 28, 30, 31]),
)

# Times are told in turns of a plain loop, so that a slow machine does no harm. 100,000 of them took some 2.5 ms where
# it was measured how long it once took.
TURNS = 100000


def plain_loop():
    count = 0
    for turn in range(TURNS):
        count += turn & 1
    return count


def seconds(function):
    start = time.process_time()
    function()
    return time.process_time() - start


def turns(function):
    """How many turns of the plain loop take as long as a function: by the least of some times, since others may run."""
    both = [(seconds(function), seconds(plain_loop)) for _ in range(9)]
    return min(own for own, _ in both) / min(plain for _, plain in both) * TURNS


def drawn_sayings(count):
    """So many sayings of one to four lamps, as triples of how many, what is on and what is free; the same each time."""
    chosen = Random(8)
    found = []
    for _ in range(count):
        many = chosen.randint(1, 4)
        weights = [chosen.randint(1, 5), chosen.randint(0, 3), chosen.randint(1, 4)]
        on, free, off = split(chosen.choices(("on", "free", "off"), weights, k=2 ** many))
        found.append((many, on, free))
    return found


def long_sayings():
    return [(5, on, free) for on, free in LONG]


class AsTheyShouldBe(unittest.TestCase):
    def check(self, many, on, free):
        saying = Saying(many, on, free)
        whole = expected_wholes(many, saying.off())
        terms, tree = fewest(saying), shown(saying)
        told = (many, on, free, terms, tree)
        self.assertEqual(terms, sorted(set(terms)), told)
        self.assertLessEqual(set(terms), set(whole), told)
        self.assertTrue(tells(terms, on), told)
        if on:
            self.assertIsNone(wrong_in(tree, on, len(terms) - 1, whole), told)
        else:
            self.assertEqual((terms, tree), ([], None), told)
        self.check_again(saying, terms, tree)

    def check_again(self, saying, terms, tree):
        """Asked again, also of another saying that tells the same, it is the same, whatever became of the first one."""
        many, on, free, off = saying.many(), saying.on(), saying.free(), saying.off()
        expected = list(terms)
        terms.append("??")
        for asked in (saying, Saying(many, on[::-1], free[::-1])):
            self.assertEqual((fewest(asked), shown(asked)), (expected, tree))
            self.assertEqual((asked.many(), asked.on(), asked.free(), asked.off()), (many, on, free, off))

    def test_of_two_great_sayings(self):
        for many, on, free in long_sayings():
            self.check(many, on, free)

    def test_of_drawn_sayings(self):
        for many, on, free in drawn_sayings(400):
            self.check(many, on, free)

    def test_asking_leaves_nothing_in_a_saying(self):
        for many, on, free in long_sayings() + drawn_sayings(20):
            saying = Saying(many, on, free)
            before = repr(vars(saying))
            for asked in (fewest, shown, wholes):
                asked(saying)
            self.assertEqual(repr(vars(saying)), before)


class Soon(unittest.TestCase):
    """At most a fourth of what it once took; it takes far less than that, so that chance doesn't fail a test."""

    def test_of_two_great_sayings(self):
        # They took 720,000 and 100,000.
        for (many, on, free), most in zip(long_sayings(), (180000, 25000)):
            for asked in (fewest, shown):
                self.assertLess(turns(lambda: asked(Saying(many, on, free))), most, (asked, on, free))

    def test_of_drawn_sayings(self):
        sayings = drawn_sayings(200)

        def ask():
            for many, on, free in sayings:
                saying = Saying(many, on, free)
                fewest(saying)
                shown(saying)

        # Each of them took 9,600.
        self.assertLess(turns(ask) / len(sayings), 2400)

    def test_of_the_wholes_of_drawn_sayings(self):
        sayings = drawn_sayings(200)

        def ask():
            for many, on, free in sayings:
                wholes(Saying(many, on, free))

        # Each of them took 2,900.
        self.assertLess(turns(ask) / len(sayings), 720)


if __name__ == "__main__":
    unittest.main()
