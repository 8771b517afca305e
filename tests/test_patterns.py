import itertools
import unittest

from nohalfway.patterns import addresses, fits, is_address, is_pattern

ALL_PATTERNS = ["".join(signs) for signs in itertools.product("01x", repeat=4)]
OTHER_SIGNS = ["2", "X", " ", "-", "o", "l", "9", "\n", "\0", "*", "?", "\u0661", "\uff11", "\u00d7", "01"]
NO_TEXTS = [
    0, 1, 1010, -1, True, False, None, 0.5, 1j, b"01x0", bytearray(b"01x0"), [], (), {}, set(),
    ["0", "1", "x", "0"], ("0", "1", "x", "0"), ["01x0"], ("01x0",), {"0": 1, "1": 1, "x": 1, "00": 1},
    frozenset(["01x0"]), object(), str, len, range(4),
]


def figures(address):
    return f"{address:04b}"


def fitting(pattern):
    return [
        address for address in range(16)
        if all(sign in ("x", figure) for sign, figure in zip(pattern, figures(address)))
    ]


class IsPattern(unittest.TestCase):
    def test_every_text_of_four_signs_is_one(self):
        self.assertEqual(len(ALL_PATTERNS), 81)
        for pattern in ALL_PATTERNS:
            with self.subTest(pattern):
                self.assertIs(is_pattern(pattern), True)

    def test_other_lengths_are_none(self):
        for length in [0, 1, 2, 3, 5, 6, 8, 16, 3000]:
            for sign in "01x":
                with self.subTest(length=length, sign=sign):
                    self.assertIs(is_pattern(sign * length), False)

    def test_another_sign_at_any_place_makes_it_none(self):
        for pattern in ["0000", "1111", "xxxx", "01x0"]:
            for place in range(4):
                for sign in OTHER_SIGNS:
                    text = pattern[:place] + sign + pattern[place + 1:]
                    with self.subTest(text=text):
                        self.assertIs(is_pattern(text), False)

    def test_signs_around_a_pattern_make_it_none(self):
        for text in [" 01x0", "01x0 ", "01x0\n", "01x0,", "0 1 x 0"]:
            with self.subTest(text=text):
                self.assertIs(is_pattern(text), False)

    def test_what_is_no_text_is_none(self):
        for thing in NO_TEXTS:
            with self.subTest(repr(thing)):
                self.assertIs(is_pattern(thing), False)


class Fits(unittest.TestCase):
    def test_every_pattern_and_every_address(self):
        for pattern in ALL_PATTERNS:
            right = fitting(pattern)
            for address in range(16):
                with self.subTest(pattern=pattern, address=address):
                    self.assertIs(fits(pattern, address), address in right)

    def test_the_figure_worth_eight_is_first(self):
        self.assertIs(fits("1000", 8), True)
        self.assertIs(fits("1000", 1), False)
        self.assertIs(fits("0001", 1), True)
        self.assertIs(fits("0001", 8), False)
        self.assertIs(fits("1100", 12), True)
        self.assertIs(fits("1100", 3), False)
        self.assertIs(fits("x01x", 11), True)
        self.assertIs(fits("x01x", 13), False)

    def test_a_number_that_is_no_address_fits_nothing(self):
        for number in [-16, -1, 16, 17, 31, 255, 10 ** 400]:
            for pattern in ["xxxx", "0000", "1111", "xxx1"]:
                with self.subTest(pattern=pattern, number=number):
                    self.assertIs(fits(pattern, number), False)

    def test_nothing_fits_a_text_that_is_no_pattern(self):
        for text in ["", "xxx", "xxxxx", "xxx2"]:
            for address in range(16):
                with self.subTest(text=text, address=address):
                    self.assertIs(fits(text, address), False)


class Addresses(unittest.TestCase):
    def test_those_that_fit_rising(self):
        self.assertEqual(addresses("xxxx"), list(range(16)))
        self.assertEqual(addresses("0000"), [0])
        self.assertEqual(addresses("1111"), [15])
        self.assertEqual(addresses("1xx0"), [8, 10, 12, 14])
        self.assertEqual(addresses("xxx1"), [1, 3, 5, 7, 9, 11, 13, 15])
        for pattern in ALL_PATTERNS:
            with self.subTest(pattern):
                told = addresses(pattern)
                self.assertIs(type(told), list)
                self.assertEqual(told, fitting(pattern))
                self.assertTrue(all(type(address) is int for address in told))

    def test_each_list_is_the_askers_own(self):
        for pattern in ["xxxx", "01xx", "0000"]:
            with self.subTest(pattern):
                told = addresses(pattern)
                again = addresses(pattern)
                self.assertIsNot(told, again)
                told.append(99)
                told[0] = 77
                self.assertEqual(again, fitting(pattern))
                self.assertEqual(addresses(pattern), fitting(pattern))
                self.assertIs(fits(pattern, fitting(pattern)[0]), True)


class IsAddress(unittest.TestCase):
    def test_whole_numbers_from_0_to_15_are(self):
        for address in range(16):
            self.assertIs(is_address(address), True)

    def test_other_things_are_none(self):
        for thing in [-1, 16, 10 ** 400, True, False, None, "0", "", 1.0, [0], (0,)]:
            with self.subTest(repr(thing)):
                self.assertIs(is_address(thing), False)


if __name__ == "__main__":
    unittest.main()
