import unittest

from fewterms import errors
from fewterms.errors import BadCount, BadNote, BadRows, BadTelling, BadTerm, TermError

REFUSALS = (BadCount, BadRows, BadTerm, BadTelling, BadNote)


class Errors(unittest.TestCase):
    def test_any_refusal_is_straight_under_value_error(self):
        self.assertEqual(TermError.__bases__, (ValueError,))

    def test_each_refusal_is_straight_under_term_error(self):
        for refusal in REFUSALS:
            with self.subTest(refusal.__name__):
                self.assertEqual(refusal.__bases__, (TermError,))

    def test_none_is_under_another_one(self):
        for one in REFUSALS:
            for other in REFUSALS:
                self.assertEqual(issubclass(one, other), one is other)

    def test_they_are_defined_in_their_file(self):
        for refusal in REFUSALS + (TermError,):
            self.assertEqual(refusal.__module__, errors.__name__)

    def test_a_note_refusal_has_its_row(self):
        for row in (1, 2, 33):
            self.assertEqual(BadNote(row).row, row)
            with self.assertRaises(TermError) as caught:
                raise BadNote(row)
            self.assertEqual(caught.exception.row, row)
        self.assertEqual(BadNote(row=7).row, 7)

    def test_two_note_refusals_have_their_own_rows(self):
        first, second = BadNote(1), BadNote(2)
        self.assertEqual((first.row, second.row), (1, 2))

    def test_the_others_are_made_of_a_text(self):
        for refusal in (TermError, BadCount, BadRows, BadTerm, BadTelling):
            self.assertEqual(str(refusal("why")), "why")


if __name__ == "__main__":
    unittest.main()
