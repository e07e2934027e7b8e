import inspect
import unittest

from steppedtests import errors
from steppedtests.errors import NoFinal, TestError

ATTRIBUTES = {
    "BadEnds": ("count",), "BadNode": ("index",), "BadStart": ("place",), "TwiceAsked": ("index",),
    "NoNode": ("index",), "NoPosition": ("place",), "BadQuestion": ("number",), "BadMarks": ("count",),
    "BadLadder": ("word",), "BadCount": ("count",), "BadRelation": ("word",), "BadPositions": ("index",),
    "NoFinal": ("ends",), "NotReached": ("index",), "NoEnd": ("number",), "ZeroBottom": (),
    "NoChance": ("number",), "BadChance": ("number",), "ZeroPolynomial": (), "BadInterval": (),
    "NoSkip": ("index",), "NotComing": ("index",), "NoPupils": (), "BadLength": ("count",),
    "AlikePupils": ("first", "second"), "BadLine": ("line",), "Ended": (), "BadDeed": ("index",),
}
VALUES = {"word": "begin", "ends": (2, 0), "first": 3, "second": 5}


def values_of(name):
    return [VALUES.get(word, 7) for word in ATTRIBUTES[name]]


class Errors(unittest.TestCase):
    def test_there_are_twenty_eight_and_their_base(self):
        self.assertEqual(len(ATTRIBUTES), 28)
        found = {name for name, value in vars(errors).items() if inspect.isclass(value)}
        self.assertEqual(found, {"TestError", *ATTRIBUTES})

    def test_bases(self):
        self.assertEqual(TestError.__bases__, (ValueError,))
        for name in ATTRIBUTES:
            with self.subTest(name):
                self.assertEqual(getattr(errors, name).__bases__, (TestError,))

    def test_arguments_are_attributes_in_their_order(self):
        for name, words in ATTRIBUTES.items():
            with self.subTest(name):
                values = values_of(name)
                error = getattr(errors, name)(*values)
                self.assertEqual(tuple(vars(error)), words)
                self.assertEqual([getattr(error, word) for word in words], values)

    def test_each_can_be_raised_and_caught_by_the_base(self):
        for name in ATTRIBUTES:
            with self.subTest(name):
                with self.assertRaises(TestError) as caught:
                    raise getattr(errors, name)(*values_of(name))
                self.assertEqual(caught.exception.__class__.__name__, name)
                self.assertTrue(str(caught.exception))

    def test_other_numbers_of_arguments_are_refused(self):
        for name in ATTRIBUTES:
            with self.subTest(name):
                with self.assertRaises(TypeError):
                    getattr(errors, name)(*values_of(name), 1)

    def test_no_final_holds_a_tuple_of_its_own(self):
        ends = [2, 0]
        error = NoFinal(ends)
        ends.append(1)
        self.assertEqual(error.ends, (2, 0))
        self.assertIsInstance(error.ends, tuple)


if __name__ == "__main__":
    unittest.main()
