"""The refusals, as the interface lists them."""

import unittest

from tests.makers import REFUSALS
from twigfinds.errors import TwigError


class Refusals(unittest.TestCase):
    def test_each_is_a_twig_error_and_a_value_error(self):
        self.assertTrue(issubclass(TwigError, ValueError))
        for refusal in REFUSALS:
            self.assertTrue(issubclass(refusal, TwigError), refusal)

    def test_none_stands_under_another(self):
        for one in REFUSALS:
            self.assertFalse(issubclass(TwigError, one), one)
            for other in REFUSALS:
                self.assertEqual(issubclass(one, other), one is other, (one, other))

    def test_names(self):
        names = ["NoTree", "NoPart", "NoWay", "NoNumber", "NoFinding", "TooMany", "NoLetter", "NoText", "NoName",
                 "NoRow"]
        self.assertEqual([refusal.__name__ for refusal in REFUSALS], names)
