import unittest
from itertools import product

from chipyard.errors import NoGround, NoLoad
from chipyard.grounds import degree, fired
from chipyard.ranks import counterload, rank, rings
from chipyard.winning import won
from tests.samples import (BIG, FIVE_RING, FULL_FIVE, FULL_FOUR, GROUNDS, HOUSE, ONE, PAIR, PATH, RING, SQUARE, STAR,
                           THICK_PAIR, TREE, UNEVEN, all_lines, all_takes, loads_for, rests, small_grounds)
from tests.test_grounds import NO_GROUNDS, no_loads


def is_won(ground, load):
    return won(ground, load)[0] == "way"


def less(one, other):
    return tuple(chips - fewer for chips, fewer in zip(one, other))


def slow_rank(ground, load):
    """The rank, by trying every take."""
    chips = 0
    while all(is_won(ground, less(load, take)) for take in all_takes(ground[0], chips)):
        chips += 1
    return chips - 1


def load_of_size(ground, size, numbers, width):
    load = [next(numbers) % (2 * width + 1) - width for yard in range(ground[0])]
    load[next(numbers) % ground[0]] += size - sum(load)
    return tuple(load)


def sizes_for(ground):
    """From a debt to somewhat more than the counterload has."""
    return range(-2, max(2 * rings(ground) - 2, 0) + 3)


class Rank(unittest.TestCase):
    def assert_take(self, ground, load, answer):
        self.assertIsInstance(answer, tuple)
        number, take = answer
        self.assertIs(type(number), int)
        self.assertIsInstance(take, tuple)
        self.assertEqual([type(chips) for chips in take], [int] * ground[0])
        self.assertTrue(all(chips >= 0 for chips in take), (ground, load, answer))
        self.assertEqual(sum(take), number + 1)
        self.assertFalse(is_won(ground, less(load, take)), (ground, load, answer))

    def assert_rule(self, ground, load):
        here = rank(ground, load)
        other = less(counterload(ground), load)
        there = rank(ground, other)
        self.assert_take(ground, load, here)
        self.assert_take(ground, other, there)
        self.assertEqual(here[0] - there[0], sum(load) - rings(ground) + 1, (ground, load))
        self.assertEqual(here[0] == -1, not is_won(ground, load))

    def test_some_by_hand(self):
        self.assertEqual(rank(ONE, (0,)), (0, (1,)))
        self.assertEqual(rank(ONE, (4,)), (4, (5,)))
        self.assertEqual(rank(ONE, (-1,)), (-1, (0,)))
        self.assertEqual(rank(ONE, (-BIG,)), (-1, (0,)))
        self.assertEqual(rank(PAIR, (5, -2))[0], 3)
        self.assertEqual(rank(RING, (1, 0, 0))[0], 0)
        self.assertEqual(rank(RING, (1, 1, 0))[0], 1)
        self.assertEqual(rank(RING, (1, -1, 0)), (-1, (0, 0, 0)))
        self.assertEqual(rank(THICK_PAIR, (1, 1))[0], 1)
        self.assertEqual(rank(THICK_PAIR, (2, 0)), (0, (0, 1)))
        self.assertEqual(rank(FULL_FOUR, (1, 1, 1, 0))[0], 1)

    def test_not_won_is_a_take_of_no_chips(self):
        for ground in GROUNDS:
            for load in loads_for(ground):
                if not is_won(ground, load):
                    self.assertEqual(rank(ground, load), (-1, (0,) * ground[0]))

    def test_against_all_takes_on_each_small_ground(self):
        numbers = rests(11)
        for ground in small_grounds():
            for size in sizes_for(ground):
                load = load_of_size(ground, size, numbers, 4)
                answer = rank(ground, load)
                self.assert_take(ground, load, answer)
                self.assertEqual(answer[0], slow_rank(ground, load), (ground, load))

    def test_against_all_takes_on_all_small_loads(self):
        for ground in (ONE, PAIR, THICK_PAIR, PATH, RING, UNEVEN):
            for load in product(range(-2, 5), repeat=ground[0]):
                answer = rank(ground, load)
                self.assert_take(ground, load, answer)
                self.assertEqual(answer[0], slow_rank(ground, load), (ground, load))

    def test_against_all_takes_on_four_and_five_yards(self):
        numbers = rests(12)
        for ground in (SQUARE, STAR, FULL_FOUR, TREE, FIVE_RING, HOUSE):
            for size in range(-1, min(2 * rings(ground), 9)):
                load = load_of_size(ground, size, numbers, 2)
                answer = rank(ground, load)
                self.assert_take(ground, load, answer)
                self.assertEqual(answer[0], slow_rank(ground, load), (ground, load))

    def test_a_chip_in_each_yard_can_be_lost_anywhere(self):
        for ground in GROUNDS:
            for chips in range(3):
                self.assertGreaterEqual(rank(ground, (chips,) * ground[0])[0], chips)

    def test_alike_loads_have_one_rank(self):
        for ground in GROUNDS:
            for counts in loads_for(ground):
                load = (1,) * ground[0]
                self.assertEqual(rank(ground, fired(ground, load, list(counts)))[0], rank(ground, load)[0])

    def test_no_more_than_the_size_and_no_less_than_it_without_the_rings(self):
        for ground in GROUNDS:
            for load in loads_for(ground):
                answer = rank(ground, load)
                self.assert_take(ground, load, answer)
                self.assertLessEqual(answer[0], max(sum(load), -1))
                self.assertGreaterEqual(answer[0], max(sum(load) - rings(ground), -1))

    def test_great_loads(self):
        for ground in GROUNDS:
            load = (BIG,) + (-7,) * (ground[0] - 1)
            self.assertEqual(rank(ground, load)[0], sum(load) - rings(ground))

    def test_the_rule_for_loads_of_many_sizes(self):
        numbers = rests(13)
        for ground in GROUNDS[:-1]:
            for size in list(sizes_for(ground)) + [-30, 60, BIG, -BIG]:
                for width in (1, 6, BIG):
                    self.assert_rule(ground, load_of_size(ground, size, numbers, width))

    def test_the_rule_on_each_small_ground(self):
        for ground in small_grounds():
            for load in product((-3, 0, 1, 4), repeat=ground[0]):
                self.assert_rule(ground, load)

    def test_the_greatest_ground(self):
        self.assertEqual(rings(FULL_FIVE), 36)
        for load in ((7, 7, 7, 7, 7), (8, 7, 7, 7, 7), (-30, 10, 20, 30, 5), (BIG, -BIG, 40, 0, 0)):
            self.assert_rule(FULL_FIVE, load)
        number = rank(FULL_FIVE, (5, 5, 5, 5, 5))[0]
        for yard in range(5):
            for other in range(5):
                take = [0] * 5
                take[yard] += number // 2
                take[other] += number - number // 2
                self.assertTrue(is_won(FULL_FIVE, less((5, 5, 5, 5, 5), take)))

    def test_what_is_no_load_is_refused(self):
        for ground in (ONE, PAIR, HOUSE):
            for number, thing in enumerate(no_loads(ground)):
                with self.subTest(number):
                    self.assertRaises(NoLoad, rank, ground, thing)


class Rings(unittest.TestCase):
    def test_lines_less_yards_and_one(self):
        self.assertEqual(rings(ONE), 0)
        self.assertEqual([rings(ground) for ground in (PAIR, PATH, TREE)], [0, 0, 0])
        self.assertEqual([rings(ground) for ground in (THICK_PAIR, RING, SQUARE, UNEVEN)], [3, 1, 1, 4])
        for ground in list(small_grounds()) + list(GROUNDS):
            self.assertEqual(rings(ground), len(all_lines(ground)) - ground[0] + 1)


class Counterload(unittest.TestCase):
    def test_degrees_less_two(self):
        self.assertEqual(counterload(ONE), (-2,))
        self.assertEqual(counterload(PAIR), (-1, -1))
        self.assertEqual(counterload(UNEVEN), (3, 1, 2))
        for ground in list(small_grounds()) + list(GROUNDS):
            self.assertIsInstance(counterload(ground), tuple)
            self.assertEqual(counterload(ground), tuple(degree(ground, yard) - 2 for yard in range(ground[0])))
            self.assertEqual(sum(counterload(ground)), 2 * rings(ground) - 2)

    def test_its_rank_is_one_less_than_the_rings(self):
        for ground in GROUNDS:
            self.assertEqual(rank(ground, counterload(ground))[0], rings(ground) - 1)


class Grounds(unittest.TestCase):
    def test_what_is_no_ground_is_refused(self):
        for number, thing in enumerate(NO_GROUNDS):
            with self.subTest(number):
                self.assertRaises(NoGround, rank, thing, (0,))
                self.assertRaises(NoGround, rings, thing)
                self.assertRaises(NoGround, counterload, thing)
