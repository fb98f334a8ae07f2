import re
import unittest
from itertools import product

from chipyard.errors import NoGround, NoLoad, NoText
from chipyard.grounds import checked
from chipyard.texts import read, read_load, shown, shown_load
from tests.samples import (BIG, FULL_FIVE, GROUNDS, HOUSE, NO_NUMBERS, ONE, PAIR, PATH, THICK_PAIR, UNEVEN, Unequal,
                           loads_for, small_grounds)
from tests.test_grounds import NO_GROUNDS

NUMBER = "(0|-?[1-9][0-9]{0,29})"
NO_TEXTS = [thing for thing in NO_NUMBERS if not isinstance(thing, str)] + [
    0, 7, BIG, b"1", b"2 0-1", ["1"], ("1",), ["2", "0-1"], {"1": 1}, Unequal(), (1, ()), (0, 0), bytearray(b"1"),
]

NO_GROUND_TEXTS = (
    "", " ", "  ", "\n", "1\n", "\n1", "1 ", " 1", "1  ", "2  0-1", "2 0-1 ", " 2 0-1", "2 0-1\n", "2\n0-1", "2\t0-1",
    "2 0-1\r", "2 0 -1", "2 0- 1", "2 0-1 x2", "2 0-1x 2", "2,0-1", "2 0-1,", "2\u00a00-1", "2 0\u20131",
    # numbers that are written otherwise
    "01", "1.0", "+1", "-1", "--1", "-0", "0", "6", "one", "True", "None", "1e0", "1_0", "0x1", "\u0661", "\u00b2",
    "\uff11", "02 0-1", "+2 0-1", "2 00-1", "2 0-01", "2 -0-1", "2 0--1", "2 +0-1", "2 0-+1", "2 0-1x02",
    "2 0-1x+2", "2 0-1x-2",
    "2 0-1x-0", "2 0-1x2.0", "2 0-\u0661", "2 0-1x\u00b2", "2 0-1x\uff12", "2 \u0660-1", "1" + "0" * 30, "1" * 5000,
    "2 0-1x" + "1" * 5000, "2 0-" + "1" * 31,
    # lines
    "2 0-1x1", "2 0-1x0", "2 0-1x5", "2 0-1x", "2 0-1x2x2", "2 0-1xx2", "2 0-1X2", "2 0-1*2", "2 x2", "2 x", "2 -",
    "2 0-", "2 -1", "2 0", "2 01", "2 0-1-2", "2 0_1", "2 0:1", "2 0x1", "2 0x1-2", "2 0-1x2-",
    "3 0-1 1-2x1", "2 (0-1)",
    "2-0-1",
    # yards
    "2 1-0", "3 1-0 1-2", "3 0-1 2-1", "1 0-0", "2 0-0 0-1", "2 0-2", "2 0-1 1-2", "1 0-1", "2 0-1 0-1", "2 0-1 0-1x2",
    "2 0-1x2 0-1", "3 1-2 0-1", "3 0-2 0-1", "6 0-1 1-2 2-3 3-4 4-5", "0 0-1",
    # yards that can't be come to
    "2", "3", "5", "3 0-1", "3 1-2x4", "4 0-1 2-3", "4 0-3 1-2", "5 0-1 0-2 1-2 3-4",
)

NO_LOAD_TEXTS = (
    "", " ", "  ", "\n", "1\n", "\n1", "1 ", " 1", "1  2", "1 2 ", " 1 2", "1\n2", "1\t2", "1 2\n", "1\r2", "1,2",
    "1, 2", "(1, 2)", "1\u00a02", "1\u20032", "-0", "00", "01", "-01", "--1", "+1", "-", "- 1", "1-", "-1-",
    "1-2", "+-1",
    "-+1", "+0", "1.0", "1.", "1e3", "1_0", "0x1", "x1", "1x", "a", "True", "None", "\u0661", "\u00b2",
    "\uff11", "\u22121",
    "\u20131", "0 -0", "0 00", "1 01", "1 +2", "1 - 2", "1 --2", "0 0 0 0 -", "1" + "0" * 30, "-1" + "0" * 30, "9" * 31,
    "-" + "9" * 31, "0 " + "1" * 31, "1" * 5000, "-" + "1" * 5000, "0" * 31, "0" * 30,
)


class Shown(unittest.TestCase):
    def test_some_by_hand(self):
        self.assertEqual(shown(ONE), "1")
        self.assertEqual(shown(PAIR), "2 0-1")
        self.assertEqual(shown(THICK_PAIR), "2 0-1x4")
        self.assertEqual(shown(PATH), "3 0-1 1-2")
        self.assertEqual(shown(UNEVEN), "3 0-1x2 0-2x3 1-2")
        self.assertEqual(shown(HOUSE), "5 0-1 0-2x2 1-3 2-3 2-4x3 3-4")

    def test_what_is_no_ground_is_refused(self):
        for number, thing in enumerate(NO_GROUNDS):
            with self.subTest(number):
                self.assertRaises(NoGround, shown, thing)


class ShownLoad(unittest.TestCase):
    def test_some_by_hand(self):
        self.assertEqual(shown_load((0,)), "0")
        self.assertEqual(shown_load((-3,)), "-3")
        self.assertEqual(shown_load((2, 0, -1)), "2 0 -1")
        self.assertEqual(shown_load((BIG, -BIG)), "9876543210987654321 -9876543210987654321")
        self.assertEqual(shown_load((0, 0, 0, 0, 0)), "0 0 0 0 0")

    def test_what_is_no_load_for_any_ground_is_refused(self):
        for number, thing in enumerate(NO_NUMBERS[:10] + ((True,), (0, False), (0, None), ("0",), [0, 0], 7, ())):
            with self.subTest(number):
                self.assertRaises(NoLoad, shown_load, thing)


class Read(unittest.TestCase):
    def test_each_ground_is_read_back(self):
        for ground in list(small_grounds()) + list(GROUNDS):
            text = shown(ground)
            self.assertIsInstance(text, str)
            self.assertEqual(read(text), ground)
            self.assertEqual(checked(read(text)), ground)

    def test_some_by_hand(self):
        self.assertEqual(read("1"), (1, ()))
        self.assertEqual(read("2 0-1x2"), (2, ((0, 1, 2),)))
        self.assertEqual(read("3 0-2x3 1-2"), (3, ((0, 2, 3), (1, 2, 1))))
        self.assertEqual(read(shown(FULL_FIVE)), FULL_FIVE)

    def test_what_is_not_written_so_is_refused(self):
        for text in NO_GROUND_TEXTS:
            with self.subTest(text[:40]):
                self.assertRaises(NoText, read, text)

    def test_what_is_no_text_is_refused(self):
        for number, thing in enumerate(NO_TEXTS):
            with self.subTest(number):
                self.assertRaises(NoText, read, thing)

    def test_all_short_texts(self):
        known = {shown(ground) for ground in small_grounds()}
        # Each text is read just if a ground is written so.
        for length in range(8):
            for signs in product("012x-", repeat=max(length - 2, 0)):
                for start in ("", "2", "2 ")[:length + 1]:
                    text = start + "".join(signs)
                    if text in known:
                        self.assertEqual(shown(read(text)), text)
                    else:
                        self.assertRaises(NoText, read, text)

    def test_a_sign_more_or_fewer_or_another(self):
        known = {shown(ground) for ground in small_grounds()}
        for text in ("1", "2 0-1", "2 0-1x4", "3 0-1x2 0-2x3 1-2", "3 0-2 1-2x3"):
            for place in range(len(text) + 1):
                for sign in ("", *"0123456x- +\n"):
                    for near in (text[:place] + sign + text[place:], text[:place] + sign + text[place + 1:]):
                        if near in known:
                            self.assertEqual(shown(read(near)), near)
                        else:
                            self.assertRaises(NoText, read, near)


class ReadLoad(unittest.TestCase):
    def test_each_load_is_read_back(self):
        for ground in GROUNDS:
            for load in loads_for(ground):
                self.assertEqual(read_load(shown_load(load)), load)

    def test_some_by_hand(self):
        self.assertEqual(read_load("0"), (0,))
        self.assertEqual(read_load("-7 0 12"), (-7, 0, 12))
        self.assertEqual([type(chips) for chips in read_load("1 0 -1")], [int] * 3)

    def test_thirty_figures_and_no_more(self):
        for number in (10 ** 29, 10 ** 30 - 1):
            for load in ((number,), (-number,), (0, number, -number), (-number,) * 5):
                self.assertEqual(read_load(shown_load(load)), load)
        for number in (10 ** 30, 10 ** 31 - 1, 10 ** 40):
            for text in (f"{number}", f"-{number}", f"0 {number}", f"-{number} 0"):
                self.assertRaises(NoText, read_load, text)

    def test_what_is_not_written_so_is_refused(self):
        for text in NO_LOAD_TEXTS:
            with self.subTest(text[:40]):
                self.assertRaises(NoText, read_load, text)

    def test_what_is_no_text_is_refused(self):
        for number, thing in enumerate(NO_TEXTS):
            with self.subTest(number):
                self.assertRaises(NoText, read_load, thing)

    def test_all_short_texts(self):
        for length in range(6):
            for signs in product("01-+ \n", repeat=length):
                text = "".join(signs)
                if re.fullmatch(f"{NUMBER}( {NUMBER})*", text):
                    self.assertEqual(read_load(text), tuple(int(word) for word in text.split(" ")))
                    self.assertEqual(shown_load(read_load(text)), text)
                else:
                    self.assertRaises(NoText, read_load, text)
