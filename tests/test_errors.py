import unittest

from loanpairs import errors

PLAIN = (
    errors.InvalidWord, errors.InvalidFunction, errors.InvalidProgram, errors.InvalidState, errors.InvalidWalk,
    errors.InvalidTable, errors.InvalidContract, errors.InvalidOperation,
)
KEEPING = (
    (errors.ParseError, errors.LoanError, "line"),
    (errors.UnknownName, KeyError, "wanted"),
    (errors.NothingToUndo, IndexError, "many"),
    (errors.NotReached, LookupError, "point"),
    (errors.TooMany, OverflowError, "limit"),
    (errors.Refused, ArithmeticError, "claim"),
    (errors.InvalidNumber, RuntimeError, "given"),
)
ANY = (None, 0, -1, 10 ** 99, True, "", "a b", (), ("sound", "f"), [1], {"a": []}, errors.LoanError("x"))


class Bases(unittest.TestCase):
    """[1.1] [1.2]"""

    def test_loan_error(self):
        self.assertEqual(errors.LoanError.__bases__, (ValueError,))

    def test_plain_errors_are_directly_derived(self):
        for error in PLAIN:
            self.assertEqual(error.__bases__, (errors.LoanError,), error)

    def test_keeping_errors_are_directly_derived(self):
        for error, base, _ in KEEPING:
            self.assertEqual(error.__bases__, (base,), error)

    def test_none_is_derived_from_another(self):
        every = PLAIN + tuple(error for error, _, _ in KEEPING)
        self.assertEqual(len(set(every)), 15)
        for error in every:
            for other in every:
                self.assertEqual(issubclass(error, other), error is other)

    def test_only_errors_about_values_are_loan_errors(self):
        for error, base, _ in KEEPING:
            self.assertEqual(issubclass(error, errors.LoanError), base is errors.LoanError)

    def test_all_are_defined_in_their_module(self):
        for error in PLAIN + (errors.LoanError,) + tuple(error for error, _, _ in KEEPING):
            self.assertEqual(error.__module__, "loanpairs.errors")


class Kept(unittest.TestCase):
    """[1.1] [1.2]"""

    def test_each_keeps_any_value(self):
        for error, _, attribute in KEEPING:
            for value in ANY:
                self.assertIs(getattr(error(value), attribute), value)

    def test_each_keeps_its_value_when_raised(self):
        for error, base, attribute in KEEPING:
            for value in ANY:
                with self.assertRaises(base) as caught:
                    raise error(value)
                self.assertIs(getattr(caught.exception, attribute), value)

    def test_each_wants_one_value(self):
        for error, _, _ in KEEPING:
            self.assertRaises(TypeError, error)
            self.assertRaises(TypeError, error, 1, 2)

    def test_each_takes_its_value_by_name(self):
        for error, _, attribute in KEEPING:
            self.assertEqual(getattr(error(**{attribute: 5}), attribute), 5)

    def test_the_others_take_a_message(self):
        for error in PLAIN + (errors.LoanError,):
            with self.assertRaises(ValueError) as caught:
                raise error("no such thing")
            self.assertEqual(str(caught.exception), "no such thing")
