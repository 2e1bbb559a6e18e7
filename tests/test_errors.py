import unittest

from comeright import errors

OF_TEXT = (
    "NoWeb", "NoTerm", "NoPlan", "NoPlans", "NoWords", "NoGoes", "NoScene", "NoDeed", "NotRight", "NoPile", "NoTable",
    "NoStanding", "NoMovers", "NoRules", "NoWish", "NoCase", "NoLot", "NoBase", "NoLine",
)
BEARING = {
    "NoRun": ("at", errors.ComeError), "NoText": ("at", errors.ComeError), "NoSeat": ("seat", IndexError),
    "NoNumber": ("number", LookupError), "TooWide": ("most", OverflowError), "TooLong": ("many", RuntimeError),
    "NoBack": ("many", KeyError),
}


class Errors(unittest.TestCase):
    def test_those_of_a_text_stand_right_under_come_error(self):
        self.assertEqual(errors.ComeError.__bases__, (ValueError,))
        for name in OF_TEXT:
            made = getattr(errors, name)
            self.assertEqual(made.__bases__, (errors.ComeError,), name)
            self.assertEqual(str(made("so it is")), "so it is")

    def test_the_others_bear_what_they_are_made_of(self):
        for name, (borne, base) in BEARING.items():
            made = getattr(errors, name)
            self.assertEqual(made.__bases__, (base,), name)
            for thing in (3, None, ("a", [1]), {}):
                self.assertIs(getattr(made(thing), borne), thing)
                self.assertIsInstance(str(made(thing)), str)

    def test_none_of_other_kinds_is_under_another_one(self):
        others = [getattr(errors, name) for name in BEARING if BEARING[name][1] is not errors.ComeError]
        for one in others:
            self.assertFalse(issubclass(one, errors.ComeError))
            for two in others:
                self.assertTrue(one is two or not issubclass(one, two))
