import unittest

from broadrow.errors import BroadError, NoKind, NoLine, NoPlace, NoRule, NoText, NoThing

CLASSES = (NoText, NoKind, NoPlace, NoThing, NoRule, NoLine)


class Refusals(unittest.TestCase):
    def test_all_stand_under_broad_error_and_value_error(self):
        self.assertTrue(issubclass(BroadError, ValueError))
        for one in CLASSES:
            self.assertTrue(issubclass(one, BroadError))
            self.assertTrue(issubclass(one, ValueError))

    def test_none_stands_under_another(self):
        for one in CLASSES:
            for other in CLASSES:
                self.assertEqual(issubclass(one, other), one is other)

    def test_each_has_its_field(self):
        self.assertEqual(NoText(3).at, 3)
        self.assertEqual(NoKind((0, 1)).place, (0, 1))
        self.assertEqual(NoPlace((2,)).place, (2,))
        self.assertEqual(NoThing(-4).number, -4)

    def test_each_is_made_of_one_thing_and_has_words(self):
        for one, some in zip(CLASSES, (0, (), (), 0, "no such rule", "no such row")):
            with self.assertRaises(one) as caught:
                raise one(some)
            self.assertTrue(str(caught.exception))


if __name__ == "__main__":
    unittest.main()
