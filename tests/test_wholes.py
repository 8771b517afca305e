import unittest

from nohalfway.wholes import is_whole, is_whole_within


class Wholes(unittest.TestCase):
    def test_an_int_is_a_whole_number(self):
        for thing in [0, 1, -1, 15, 10 ** 400, -10 ** 400]:
            self.assertIs(is_whole(thing), True)

    def test_a_truth_is_none(self):
        self.assertIs(is_whole(True), False)
        self.assertIs(is_whole(False), False)

    def test_other_things_are_none(self):
        for thing in [None, "1", "", 1.0, [1], (1,), {}, b"1", 1j, object(), int]:
            with self.subTest(repr(thing)):
                self.assertIs(is_whole(thing), False)

    def test_bounds_belong_to_it(self):
        told = [is_whole_within(thing, 2, 4) for thing in [1, 2, 3, 4, 5]]
        self.assertEqual(told, [False, True, True, True, False])
        self.assertIs(is_whole_within(3, 2, 4), True)

    def test_a_truth_or_another_thing_is_within_no_bounds(self):
        for thing in [True, False, None, "1", 1.0, [1]]:
            with self.subTest(repr(thing)):
                self.assertIs(is_whole_within(thing, 0, 5), False)


if __name__ == "__main__":
    unittest.main()
