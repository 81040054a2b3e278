"""The refusals of the interface."""

import unittest

from evenpass.errors import NetError, NoLane, NoName, NoNet, NoRow, NoText, NoWalker, TooMany

PLAIN = (NoNet, NoLane, NoWalker, TooMany, NoText, NoRow)
REFUSALS = PLAIN + (NoName,)


class Errors(unittest.TestCase):
    def test_each_refusal_is_a_net_error_and_a_value_error(self):
        self.assertTrue(issubclass(NetError, ValueError))
        for refusal in REFUSALS:
            with self.subTest(refusal=refusal.__name__):
                self.assertTrue(issubclass(refusal, NetError))
                self.assertTrue(issubclass(refusal, ValueError))

    def test_no_refusal_stands_under_another_one(self):
        for one in REFUSALS:
            for other in REFUSALS:
                if one is not other:
                    with self.subTest(one=one.__name__, other=other.__name__):
                        self.assertFalse(issubclass(one, other))

    def test_the_names_are_those_of_the_interface(self):
        names = [refusal.__name__ for refusal in (NetError,) + REFUSALS]
        self.assertEqual(
            names, ["NetError", "NoNet", "NoLane", "NoWalker", "TooMany", "NoText", "NoRow", "NoName"])

    def test_plain_refusals_are_raised_and_taken_by_name(self):
        for refusal in (NetError,) + PLAIN:
            with self.subTest(refusal=refusal.__name__):
                with self.assertRaises(refusal):
                    raise refusal("words")

    def test_no_name_has_the_name_that_it_was_made_of(self):
        for name in ("a", "abcdefgh", ""):
            with self.subTest(name=name):
                self.assertEqual(NoName(name).name, name)

    def test_each_no_name_has_a_name_of_its_own(self):
        one = NoName("one")
        other = NoName("other")
        self.assertEqual((one.name, other.name), ("one", "other"))
        self.assertFalse(hasattr(NoName, "name"))

    def test_no_name_keeps_its_name_when_raised(self):
        with self.assertRaises(NetError) as caught:
            raise NoName("abc")
        self.assertEqual(caught.exception.name, "abc")
