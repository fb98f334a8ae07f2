import unittest
from itertools import product

from chipyard.errors import NoGround, NoLoad, NoYard
from chipyard.grounds import degree, fired, lines_between
from chipyard.settling import alike, burning, settled
from tests.samples import (BIG, FIVE_RING, FULL_FIVE, FULL_FOUR, GROUNDS, HOUSE, NO_NUMBERS, ONE, PAIR, PATH, RING,
                           SMALL, SQUARE, STAR, THICK_PAIR, TREE, UNEVEN, loads_for, slow_settled, slow_trees,
                           small_grounds)
from tests.test_grounds import NO_GROUNDS, no_loads


def no_yards(ground):
    yield from NO_NUMBERS
    yield from (-1, ground[0], ground[0] + 1, -ground[0], BIG, -BIG)


def are_counts(ground, thing):
    return isinstance(thing, list) and [type(count) for count in thing] == [int] * ground[0]


def is_burning(ground, load, bank, order):
    if not isinstance(order, list) or order[0] != bank or sorted(order) != list(range(ground[0])):
        return False
    return all(
        load[yard] < sum(lines_between(ground, yard, ahead) for ahead in order[:place])
        for place, yard in enumerate(order) if place > 0
    )


def near_loads(ground, bank):
    """Every load with nought in the bank, and elsewhere from a debt of one to as many chips as lines."""
    ranges = [[0] if yard == bank else range(-1, degree(ground, yard) + 1) for yard in range(ground[0])]
    return product(*ranges)


def with_bank(load, bank, chips):
    return load[:bank] + (chips,) + load[bank + 1:]


class Settled(unittest.TestCase):
    def assert_settles(self, ground, load, bank):
        answer = settled(ground, load, bank)
        self.assertIsInstance(answer, tuple)
        after, counts = answer
        self.assertTrue(are_counts(ground, counts))
        self.assertEqual(counts[bank], 0)
        self.assertIsInstance(after, tuple)
        self.assertEqual(fired(ground, load, counts), after)
        self.assertTrue(slow_settled(ground, after, bank), (ground, load, bank, after))
        self.assertTrue(is_burning(ground, after, bank, burning(ground, after, bank)))

    def test_some_by_hand(self):
        self.assertEqual(settled(ONE, (-3,), 0), ((-3,), [0]))
        self.assertEqual(settled(PAIR, (-1, 1), 0), ((0, 0), [0, 1]))
        self.assertEqual(settled(PAIR, (-1, 1), 1), ((0, 0), [-1, 0]))
        self.assertEqual(settled(THICK_PAIR, (0, 9), 0), ((8, 1), [0, 2]))
        self.assertEqual(settled(RING, (0, 1, 1), 0), ((2, 0, 0), [0, 1, 1]))
        self.assertEqual(settled(PATH, (0, 0, 1), 0), ((1, 0, 0), [0, 1, 2]))

    def test_a_debt_elsewhere_is_paid_by_the_bank(self):
        self.assertEqual(settled(PATH, (0, 0, -5), 0), ((-5, 0, 0), [0, -5, -10]))
        self.assertEqual(settled(RING, (0, -1, -1), 0), ((-2, 0, 0), [0, -1, -1]))

    def test_each_load_each_bank(self):
        for ground in GROUNDS:
            for load in loads_for(ground):
                for bank in range(ground[0]):
                    self.assert_settles(ground, load, bank)

    def test_each_small_ground(self):
        for ground in small_grounds():
            for load in ((0, 0, 0), (9, -8, 3), (-4, 6, 6), (-BIG, 3, BIG)):
                for bank in range(ground[0]):
                    self.assert_settles(ground, load[:ground[0]], bank)

    def test_numbers_far_beyond_nineteen_figures(self):
        for bank in range(5):
            self.assert_settles(HOUSE, (10 ** 400, -10 ** 399, 7, -1, -10 ** 400), bank)

    def test_a_tree_gathers_all_in_the_bank(self):
        for load in loads_for(TREE):
            for bank in range(5):
                after = settled(TREE, load, bank)[0]
                self.assertEqual(after, with_bank((0,) * 5, bank, sum(load)))

    def test_a_settled_load_stays(self):
        for ground in SMALL:
            for bank in range(ground[0]):
                for load in near_loads(ground, bank):
                    if slow_settled(ground, load, bank):
                        self.assertEqual(settled(ground, load, bank), (load, [0] * ground[0]))

    def test_alike_loads_have_one_settled_load(self):
        for ground in GROUNDS:
            for load in loads_for(ground):
                for counts in loads_for(ground):
                    other = fired(ground, load, list(counts))
                    for bank in range(ground[0]):
                        self.assertEqual(settled(ground, load, bank)[0], settled(ground, other, bank)[0])

    def test_wrong_inputs(self):
        for ground in (ONE, PAIR, HOUSE):
            for number, thing in enumerate(no_loads(ground)):
                with self.subTest(number):
                    self.assertRaises(NoLoad, settled, ground, thing, 0)
            for number, thing in enumerate(no_yards(ground)):
                with self.subTest(number):
                    self.assertRaises(NoYard, settled, ground, (0,) * ground[0], thing)

    def test_the_load_is_refused_ahead_of_the_yard(self):
        for load in ([0, 0], (0,), (True, 0), None):
            for bank in (-1, 2, True, None):
                self.assertRaises(NoLoad, settled, PAIR, load, bank)

    def test_the_list_is_a_new_one_each_time(self):
        for ground in GROUNDS:
            load = (3,) * ground[0]
            first = settled(ground, load, 0)
            first[1].append("spoilt")
            first[1][0] = 77
            again = settled(ground, load, 0)
            self.assertTrue(are_counts(ground, again[1]))
            self.assertEqual(again[1][0], 0)
            self.assertEqual(again, settled(ground, load, 0))


class Burning(unittest.TestCase):
    def test_one_yard_burns_with_whatever_load(self):
        for chips in (0, 4, -4, BIG, -BIG):
            self.assertEqual(burning(ONE, (chips,), 0), [0])

    def test_some_by_hand(self):
        self.assertEqual(burning(PATH, (0, 0, 0), 0), [0, 1, 2])
        self.assertEqual(burning(PATH, (0, 0, 0), 2), [2, 1, 0])
        self.assertEqual(burning(RING, (0, 1, 0), 0), [0, 2, 1])
        self.assertIsNone(burning(RING, (0, 1, 1), 0))
        self.assertIsNone(burning(PATH, (0, 1, 0), 0))

    def test_a_debt_without_the_bank_is_not_settled(self):
        for ground in GROUNDS:
            for bank in range(ground[0]):
                for yard in range(ground[0]):
                    order = burning(ground, with_bank((0,) * ground[0], yard, -1), bank)
                    self.assertEqual(order is None, yard != bank)

    def test_just_the_settled_loads_have_one(self):
        for ground in SMALL + (STAR, FULL_FOUR, FIVE_RING):
            for bank in range(ground[0]):
                for load in near_loads(ground, bank):
                    order = burning(ground, load, bank)
                    if slow_settled(ground, load, bank):
                        self.assertTrue(is_burning(ground, load, bank, order), (ground, load, bank, order))
                    else:
                        self.assertIsNone(order, (ground, load, bank))

    def test_the_load_of_the_bank_is_all_one(self):
        for load in ((0, 1, 0), (0, 2, 0), (0, 0, 2), (0, 2, 3)):
            for chips in (-BIG, -1, 7, BIG):
                self.assertEqual(burning(UNEVEN, (chips,) + load[1:], 0), burning(UNEVEN, load, 0))

    def test_as_many_settled_loads_as_trees_and_no_two_alike(self):
        for ground in list(small_grounds()) + [SQUARE, FULL_FOUR, TREE]:
            for bank in range(ground[0]):
                found = [load for load in near_loads(ground, bank) if burning(ground, load, bank) is not None]
                self.assertEqual(len(found), len(slow_trees(ground)))
        for ground in SMALL + (FULL_FOUR,):
            found = [load for load in near_loads(ground, 0) if burning(ground, load, 0) is not None]
            even = [with_bank(load, 0, -sum(load)) for load in found]
            for one in even:
                self.assertEqual([other for other in even if alike(ground, one, other) is not None], [one])

    def test_wrong_inputs(self):
        for ground in (ONE, PAIR, HOUSE):
            for number, thing in enumerate(no_loads(ground)):
                with self.subTest(number):
                    self.assertRaises(NoLoad, burning, ground, thing, 0)
            for number, thing in enumerate(no_yards(ground)):
                with self.subTest(number):
                    self.assertRaises(NoYard, burning, ground, (0,) * ground[0], thing)
                    self.assertRaises(NoYard, burning, ground, (-1,) * ground[0], thing)

    def test_the_load_is_refused_ahead_of_the_yard(self):
        for load in ([0, 0], (0,), (True, 0), None):
            for bank in (-1, 2, True, None):
                self.assertRaises(NoLoad, burning, PAIR, load, bank)

    def test_the_list_is_a_new_one_each_time(self):
        for ground in GROUNDS:
            load = (0,) * ground[0]
            first = burning(ground, load, 0)
            kept = list(first)
            first.append("spoilt")
            self.assertEqual(burning(ground, load, 0), kept)


class Alike(unittest.TestCase):
    def assert_leads(self, ground, one, other):
        counts = alike(ground, one, other)
        self.assertTrue(are_counts(ground, counts), (ground, one, other, counts))
        self.assertEqual(fired(ground, one, counts), other)

    def test_fired_loads_are_alike(self):
        for ground in GROUNDS:
            for load in loads_for(ground):
                self.assert_leads(ground, load, load)
                for counts in loads_for(ground):
                    other = fired(ground, load, list(counts))
                    self.assert_leads(ground, load, other)
                    self.assert_leads(ground, other, load)

    def test_loads_of_two_sizes_are_not(self):
        for ground in GROUNDS:
            for load in loads_for(ground):
                for yard in range(ground[0]):
                    for more in (1, -1, BIG):
                        self.assertIsNone(alike(ground, load, with_bank(load, yard, load[yard] + more)))

    def test_loads_of_one_size_on_a_tree_are(self):
        for load in loads_for(TREE):
            self.assert_leads(TREE, load, (0, 0, 0, sum(load), 0))

    def test_loads_of_one_size_elsewhere_may_not_be(self):
        self.assertIsNone(alike(THICK_PAIR, (0, 0), (1, -1)))
        self.assertIsNone(alike(THICK_PAIR, (0, 0), (2, -2)))
        self.assert_leads(THICK_PAIR, (0, 0), (4, -4))
        self.assertIsNone(alike(RING, (1, 0, 0), (0, 1, 0)))
        self.assertIsNone(alike(RING, (BIG, 0, 0), (BIG - 1, 1, 0)))
        self.assert_leads(RING, (3, 0, 0), (0, 3, 0))
        self.assertIsNone(alike(FULL_FIVE, (BIG, 0, 0, 0, 0), (BIG - 4, 4, 0, 0, 0)))
        self.assert_leads(FULL_FIVE, (BIG, 0, 0, 0, 0), (BIG - 20, 20, 0, 0, 0))

    def test_just_if_they_settle_alike(self):
        for ground in (PATH, RING, UNEVEN, (3, ((0, 1, 2), (1, 2, 4)))):
            for one in product(range(-2, 3), repeat=2):
                for other in product(range(-4, 5), repeat=2):
                    here = one + (-sum(one),)
                    there = other + (-sum(other),)
                    if settled(ground, here, 1)[0] == settled(ground, there, 1)[0]:
                        self.assert_leads(ground, here, there)
                    else:
                        self.assertIsNone(alike(ground, here, there))

    def test_one_yard(self):
        self.assertEqual(fired(ONE, (4,), alike(ONE, (4,), (4,))), (4,))
        self.assertIsNone(alike(ONE, (4,), (5,)))

    def test_wrong_inputs(self):
        for ground in (ONE, PAIR, HOUSE):
            right = (0,) * ground[0]
            for number, thing in enumerate(no_loads(ground)):
                with self.subTest(number):
                    self.assertRaises(NoLoad, alike, ground, thing, right)
                    self.assertRaises(NoLoad, alike, ground, right, thing)
                    self.assertRaises(NoLoad, alike, ground, thing, thing)

    def test_the_list_is_a_new_one_each_time(self):
        for ground in GROUNDS:
            load = (0,) * ground[0]
            kept = list(alike(ground, load, load))
            alike(ground, load, load).append("spoilt")
            self.assertEqual(alike(ground, load, load), kept)


class HandedIn(unittest.TestCase):
    def test_what_is_refused_stays_as_it_was_too(self):
        thing = [5, -5]
        self.assertRaises(NoLoad, settled, PAIR, thing, 0)
        self.assertRaises(NoLoad, burning, PAIR, thing, 0)
        self.assertRaises(NoLoad, alike, PAIR, (5, -5), thing)
        self.assertRaises(NoYard, settled, PAIR, (5, -5), thing)
        self.assertEqual(thing, [5, -5])


class Grounds(unittest.TestCase):
    def test_what_is_no_ground_is_refused(self):
        for number, thing in enumerate(NO_GROUNDS):
            with self.subTest(number):
                self.assertRaises(NoGround, settled, thing, (0,), 0)
                self.assertRaises(NoGround, burning, thing, (0,), 0)
                self.assertRaises(NoGround, alike, thing, (0,), (0,))
