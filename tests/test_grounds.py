import copy
import unittest
from itertools import combinations, permutations, product

from chipyard.errors import NoCounts, NoGround, NoLoad
from chipyard.grounds import checked, degree, fired, is_load, lines_between
from tests.samples import (BIG, FULL_FIVE, GROUNDS, HOUSE, NO_NUMBERS, ONE, PAIR, PATH, RING, STAR, UNEVEN, Unequal,
                           joins_all, loads_for, slow_fired, slow_lines, small_grounds)

NO_GROUNDS = NO_NUMBERS + (
    0, 1, 5, (1,), ((),), (1, (), ()), [1, ()], (1, []), (1, None), (1, ""), (1, {}), (1, 0), (1, Unequal()),
    "(1, ())", {1: ()}, ((), 1),
    # how many yards
    (0, ()), (-1, ()), (6, tuple((a, a + 1, 1) for a in range(5))), (BIG, ()), (True, ()), (1.0, ()), ("1", ()),
    (None, ()), ((1,), ()), (Unequal(), ()), (2.0, ((0, 1, 1),)),
    # what is no tuple of two yards and a number
    (2, (0, 1, 1)), (2, [(0, 1, 1)]), (2, ([0, 1, 1],)), (2, ((0, 1),)), (2, ((0, 1, 1, 1),)), (2, ((),)), (2, (None,)),
    (2, ("011",)), (2, (Unequal(),)), (2, ((Unequal(), 1, 1),)), (2, ((0, Unequal(), 1),)), (2, ((0, 1, Unequal()),)),
    (2, {(0, 1, 1)}), (2, {(0, 1, 1): 1}), (2, ((0, 1, 1), None)),
    (2, ((0, True, 1),)), (2, ((False, 1, 1),)), (2, ((0, 1, True),)), (2, ((0, 1, 1.0),)), (2, ((0, 1.0, 1),)),
    (2, ((0.0, 1, 1),)), (2, (("0", "1", 1),)), (2, ((0, 1, "1"),)), (2, ((0, 1, None),)),
    # yards that there are not, falling yards, a yard and itself
    (2, ((0, 2, 1),)), (2, ((0, 1, 1), (0, 2, 1))), (2, ((0, 1, 1), (1, 2, 1))), (2, ((-1, 0, 1), (0, 1, 1))),
    (2, ((-1, 1, 1),)), (2, ((0, BIG, 1),)), (2, ((1, 0, 1),)), (3, ((0, 1, 1), (2, 1, 1))),
    (1, ((0, 0, 1),)), (2, ((0, 0, 1), (0, 1, 1))), (2, ((0, 1, 1), (1, 1, 1))), (1, ((0, 1, 1),)),
    # how many lines
    (2, ((0, 1, 0),)), (2, ((0, 1, 5),)), (2, ((0, 1, -1),)), (2, ((0, 1, BIG),)),
    (3, ((0, 1, 1), (0, 2, 0), (1, 2, 1))), (3, ((0, 1, 1), (1, 2, 5))),
    # falling, twice
    (3, ((1, 2, 1), (0, 1, 1))), (3, ((0, 2, 1), (0, 1, 1))), (3, ((0, 1, 1), (1, 2, 1), (0, 2, 1))),
    (2, ((0, 1, 1), (0, 1, 1))), (2, ((0, 1, 1), (0, 1, 2))), (2, ((0, 1, 2), (0, 1, 1))),
    # yards that can't be come to
    (2, ()), (5, ()), (3, ((0, 1, 1),)), (3, ((0, 2, 4),)), (3, ((1, 2, 1),)), (4, ((0, 1, 1), (2, 3, 1))),
    (4, ((0, 3, 1), (1, 2, 1))), (5, ((0, 1, 1), (0, 2, 1), (1, 2, 1), (3, 4, 1))),
    (5, ((1, 2, 1), (1, 3, 1), (1, 4, 1), (2, 3, 1))), (5, ((0, 1, 1), (0, 2, 1), (0, 3, 1), (1, 2, 1), (1, 3, 1))),
)


def no_rows(ground, form):
    """What is not of the form, tuple or list, with a number for each yard."""
    many = ground[0]
    wrong = list(NO_NUMBERS) + [0, 7, range(many), "0" * many, b"0" * many]
    wrong = wrong + [set(range(many)), dict.fromkeys(range(many), 0)]
    wrong = wrong + [other([0] * many) for other in (tuple, list) if other != form]
    wrong = [thing for thing in wrong if not isinstance(thing, form) or len(thing) != many]
    wrong = wrong + [form([0] * (many - 1)), form([0] * (many + 1)), form([0] * 99)]
    for place in range(many):
        wrong = wrong + [form([0] * place + [thing] + [0] * (many - place - 1)) for thing in NO_NUMBERS]
    return wrong


def no_loads(ground):
    return no_rows(ground, tuple)


def no_counts(ground):
    return no_rows(ground, list)


class Checked(unittest.TestCase):
    def test_a_ground_is_told_back(self):
        for ground in GROUNDS:
            self.assertEqual(checked(ground), ground)

    def test_every_small_ground_is_one(self):
        found = list(small_grounds())
        self.assertEqual(len(found), 1 + 4 + 64 + 3 * 16)
        for ground in found:
            self.assertEqual(checked(ground), ground)

    def test_four_and_five_yards_are_a_ground_just_if_joined(self):
        for many in (4, 5):
            pairs = list(combinations(range(many), 2))
            for numbers in product(range(2), repeat=len(pairs)):
                lines = [pair for pair, number in zip(pairs, numbers) if number]
                ground = (many, tuple(line + (1 + sum(line) % 4,) for line in lines))
                if joins_all(many, lines):
                    self.assertEqual(checked(ground), ground)
                else:
                    self.assertRaises(NoGround, checked, ground)

    def test_only_the_rising_order_is_one(self):
        for lines in permutations(HOUSE[1][:4] + HOUSE[1][5:]):
            ground = (5, lines)
            if list(lines) == sorted(lines):
                self.assertEqual(checked(ground), ground)
            else:
                self.assertRaises(NoGround, checked, ground)

    def test_whatever_else_is_none(self):
        for number, thing in enumerate(NO_GROUNDS):
            with self.subTest(number):
                self.assertRaises(NoGround, checked, thing)

    def test_others_refuse_what_is_no_ground_too(self):
        for number, thing in enumerate(NO_GROUNDS):
            with self.subTest(number):
                self.assertRaises(NoGround, is_load, thing, (0,))
                self.assertRaises(NoGround, degree, thing, 0)
                self.assertRaises(NoGround, lines_between, thing, 0, 1)
                self.assertRaises(NoGround, fired, thing, (0,), [0])

    def test_what_is_handed_in_stays_as_it_was(self):
        thing = [2, [[0, 1, 1]]]
        self.assertRaises(NoGround, checked, thing)
        self.assertEqual(thing, [2, [[0, 1, 1]]])


class Lines(unittest.TestCase):
    def test_degrees(self):
        self.assertEqual(degree(ONE, 0), 0)
        self.assertEqual([degree(PATH, yard) for yard in range(3)], [1, 2, 1])
        self.assertEqual([degree(UNEVEN, yard) for yard in range(3)], [5, 3, 4])
        self.assertEqual([degree(STAR, yard) for yard in range(4)], [1, 4, 7, 2])
        self.assertEqual([degree(FULL_FIVE, yard) for yard in range(5)], [16] * 5)

    def test_lines_between_two_yards_either_way(self):
        self.assertEqual(lines_between(UNEVEN, 0, 2), 3)
        self.assertEqual(lines_between(UNEVEN, 2, 0), 3)
        self.assertEqual(lines_between(PATH, 0, 2), 0)
        self.assertEqual(lines_between(PATH, 2, 0), 0)

    def test_no_line_joins_a_yard_and_itself(self):
        for ground in GROUNDS:
            for yard in range(ground[0]):
                self.assertEqual(lines_between(ground, yard, yard), 0)

    def test_every_small_ground(self):
        for ground in list(small_grounds()) + list(GROUNDS):
            yards = range(ground[0])
            for one in yards:
                slow = [slow_lines(ground, one, other) for other in yards]
                self.assertEqual([lines_between(ground, one, other) for other in yards], slow)
                self.assertEqual(degree(ground, one), sum(slow))


class Loads(unittest.TestCase):
    def test_a_number_for_each_yard(self):
        for ground in GROUNDS:
            for load in loads_for(ground):
                self.assertIs(is_load(ground, load), True)

    def test_whatever_else_is_none(self):
        for ground in (ONE, PAIR, HOUSE):
            for number, thing in enumerate(no_loads(ground)):
                with self.subTest(number):
                    self.assertIs(is_load(ground, thing), False)

    def test_a_load_is_one_for_its_own_number_of_yards_alone(self):
        for ground in GROUNDS:
            for many in range(8):
                self.assertIs(is_load(ground, (1,) * many), many == ground[0])


class Fired(unittest.TestCase):
    def test_a_yard_sends_a_chip_along_each_of_its_lines(self):
        self.assertEqual(fired(RING, (2, 0, 0), [1, 0, 0]), (0, 1, 1))
        self.assertEqual(fired(UNEVEN, (0, 0, 0), [0, 0, 1]), (3, 1, -4))

    def test_below_nought_it_takes_one(self):
        self.assertEqual(fired(UNEVEN, (0, 0, 0), [0, 0, -1]), (-3, -1, 4))
        self.assertEqual(fired(PATH, (1, 1, 1), [-2, 0, 0]), (3, -1, 1))

    def test_one_yard_keeps_its_chips(self):
        for chips in (0, 5, -5, BIG, -BIG):
            self.assertEqual(fired(ONE, (chips,), [BIG]), (chips,))

    def test_as_the_sum_over_its_lines_says(self):
        for ground in list(small_grounds()) + list(GROUNDS):
            for load in loads_for(ground):
                for counts in loads_for(ground):
                    after = fired(ground, load, list(counts))
                    self.assertIsInstance(after, tuple)
                    self.assertEqual(after, slow_fired(ground, load, counts))
                    self.assertEqual(sum(after), sum(load))

    def test_in_whatever_order(self):
        counts = [2, -1, 0, 3, 1]
        load = (4, 0, -2, 1, BIG)
        for order in permutations(range(5)):
            now = load
            for yard in order:
                for turn in range(abs(counts[yard])):
                    once = [0] * 5
                    once[yard] = 1 if counts[yard] > 0 else -1
                    now = fired(HOUSE, now, once)
            self.assertEqual(now, fired(HOUSE, load, counts))

    def test_back_leads_back(self):
        for ground in GROUNDS:
            for load in loads_for(ground):
                counts = [3 * chips - 1 for chips in reversed(load)]
                there = fired(ground, load, counts)
                self.assertEqual(fired(ground, there, [-count for count in counts]), load)

    def test_all_yards_once_changes_nothing(self):
        for ground in GROUNDS:
            for load in loads_for(ground):
                self.assertEqual(fired(ground, load, [BIG] * ground[0]), load)

    def test_what_is_no_load_is_refused(self):
        for ground in (ONE, PAIR, HOUSE):
            for number, thing in enumerate(no_loads(ground)):
                with self.subTest(number):
                    self.assertRaises(NoLoad, fired, ground, thing, [0] * ground[0])

    def test_what_are_no_counts_is_refused(self):
        for ground in (ONE, PAIR, HOUSE):
            for number, thing in enumerate(no_counts(ground)):
                with self.subTest(number):
                    self.assertRaises(NoCounts, fired, ground, (0,) * ground[0], thing)

    def test_the_load_is_refused_ahead_of_the_counts(self):
        for load in ([0, 0], (0,), (True, 0), None):
            for counts in ((0, 0), [0], [True, 0], None):
                self.assertRaises(NoLoad, fired, PAIR, load, counts)

    def test_what_is_handed_in_stays_as_it_was(self):
        for ground in GROUNDS:
            load = (2,) * ground[0]
            counts = list(range(ground[0]))
            before = copy.deepcopy((ground, load, counts))
            first = fired(ground, load, counts)
            self.assertEqual((ground, load, counts), before)
            self.assertEqual(fired(ground, load, counts), first)
