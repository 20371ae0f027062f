"""Promise 0.4: the errors of the program."""

import unittest

from speciesmill import errors
from speciesmill.errors import BadText, FewDigits, SpeciesError

NAMES = (
    "BadSpec NoSuchName NotFounded BadText BadLabels BadCounts TooGreat TooMany BadStructure BadIndex BadPlace "
    "BadDigits NoStructure FewDigits BadShape NotRegular BadQuotient NoPartner"
).split()


class Errors(unittest.TestCase):
    def test_each_error_is_a_species_error_and_a_value_error(self):
        self.assertEqual(SpeciesError.__bases__, (ValueError,))
        for name in NAMES:
            self.assertEqual(getattr(errors, name).__bases__, (SpeciesError,), name)

    def test_no_error_is_a_subclass_of_another_one(self):
        for name in NAMES:
            for other in NAMES:
                if name != other:
                    self.assertFalse(issubclass(getattr(errors, name), getattr(errors, other)), (name, other))

    def test_all_of_them_are_defined_in_the_file_of_the_errors(self):
        for name in NAMES + ["SpeciesError"]:
            self.assertEqual(getattr(errors, name).__module__, "speciesmill.errors")

    def test_nothing_else_stands_there(self):
        classes = [name for name, value in vars(errors).items() if isinstance(value, type)]
        self.assertEqual(sorted(classes), sorted(NAMES + ["SpeciesError"]))

    def test_the_line_of_a_bad_text(self):
        error = BadText(7)
        self.assertEqual(error.line, 7)
        self.assertIsInstance(str(error), str)

    def test_the_number_of_the_structures_drawn(self):
        error = FewDigits(4)
        self.assertEqual(error.drawn, 4)
        self.assertIsInstance(str(error), str)


if __name__ == "__main__":
    unittest.main()
