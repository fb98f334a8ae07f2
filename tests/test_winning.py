import unittest
from itertools import product

from chipyard.errors import NoGround, NoLoad
from chipyard.grounds import fired
from chipyard.ranks import rings
from chipyard.winning import won
from tests.samples import (BIG, FULL_FIVE, FULL_FOUR, GROUNDS, HOUSE, ONE, PAIR, PATH, RING, SMALL, SQUARE, STAR,
                           THICK_PAIR, TREE, UNEVEN, all_takes, loads_for, slow_fired, slow_settled, small_grounds)
from tests.test_grounds import NO_GROUNDS, no_loads
from tests.test_settling import are_counts, is_burning


class Won(unittest.TestCase):
    def assert_told(self, ground, load):
        """Holds the answer against the document's words, and tells whether the load is won."""
        answer = won(ground, load)
        self.assertIsInstance(answer, tuple)
        self.assertIn((answer[0], len(answer)), (("way", 2), ("debt", 4)))
        self.assertTrue(are_counts(ground, answer[1]))
        after = slow_fired(ground, load, answer[1])
        if answer[0] == "way":
            self.assertTrue(all(chips >= 0 for chips in after), (ground, load, answer))
            return True
        self.assertIsInstance(answer[2], tuple)
        self.assertEqual(answer[2], after)
        self.assertLess(after[0], 0)
        self.assertTrue(all(chips >= 0 for chips in after[1:]), (ground, load, answer))
        self.assertTrue(slow_settled(ground, after, 0))
        self.assertTrue(is_burning(ground, after, 0, answer[3]))
        return False

    def test_some_by_hand(self):
        self.assertEqual(won(ONE, (3,))[0], "way")
        self.assertEqual(won(ONE, (-3,))[2:], ((-3,), [0]))
        self.assertEqual(won(PAIR, (-1, 1))[0], "way")
        self.assertEqual(won(PAIR, (-1, 0))[2:], ((-1, 0), [0, 1]))
        self.assertEqual(won(THICK_PAIR, (-1, 4))[0], "way")
        self.assertEqual(won(THICK_PAIR, (-1, 3))[2:], ((-1, 3), [0, 1]))
        self.assertEqual(won(RING, (-1, 1, 0))[2:], ((-1, 1, 0), [0, 2, 1]))
        self.assertEqual(won(RING, (-1, 1, 1))[0], "way")

    def test_nought_is_no_debt(self):
        for ground in GROUNDS:
            self.assertTrue(self.assert_told(ground, (0,) * ground[0]))

    def test_each_load(self):
        for ground in GROUNDS:
            kinds = [self.assert_told(ground, load) for load in loads_for(ground)]
            self.assertEqual(sorted(set(kinds)), [False, True])

    def test_each_small_ground(self):
        for ground in small_grounds():
            for load in product(range(-3, 4), repeat=ground[0]):
                self.assert_told(ground, load)

    def test_numbers_of_many_figures_where_the_size_is_small(self):
        for ground in (PAIR, THICK_PAIR, RING, UNEVEN, STAR, HOUSE, FULL_FIVE):
            for size in range(-2, 5):
                load = (BIG, size - 3 * BIG) + (0,) * (ground[0] - 3) + (2 * BIG,) * (ground[0] > 2)
                if ground[0] == 2:
                    load = (BIG, size - BIG)
                self.assertEqual(sum(load), size)
                self.assert_told(ground, load)

    def test_less_than_nought_is_never_won(self):
        for ground in GROUNDS:
            for load in loads_for(ground):
                if sum(load) < 0:
                    self.assertFalse(self.assert_told(ground, load))

    def test_as_many_chips_as_rings_are_always_won(self):
        for ground in GROUNDS:
            for load in loads_for(ground):
                for yard in range(ground[0]):
                    for size in (rings(ground), rings(ground) + 1, rings(ground) + BIG):
                        full = list(load)
                        full[yard] += size - sum(load)
                        self.assertTrue(self.assert_told(ground, tuple(full)))

    def test_one_chip_fewer_is_not_always_won(self):
        for ground in GROUNDS:
            # Each yard has one chip fewer than lines to the yards before it.
            load = [-1] * ground[0]
            for a, b, number in ground[1]:
                load[b] += number
            self.assertEqual(sum(load), rings(ground) - 1)
            self.assertFalse(self.assert_told(ground, tuple(load)))

    def test_on_a_tree_the_size_decides(self):
        for ground in (ONE, PAIR, PATH, TREE):
            for load in loads_for(ground):
                self.assertEqual(self.assert_told(ground, load), sum(load) >= 0)

    def test_what_is_alike_to_a_load_without_debt_is_won(self):
        for ground in GROUNDS:
            for chips in (0, 1, 2):
                for load in all_takes(ground[0], chips):
                    for counts in loads_for(ground):
                        self.assertTrue(self.assert_told(ground, fired(ground, load, list(counts))))

    def test_where_a_debt_is_told_no_counts_pay_it(self):
        for ground in SMALL + (FULL_FOUR,):
            tries = [(0,) + counts for counts in product(range(-4, 5), repeat=ground[0] - 1)]
            for load in product((-2, 0, 3), repeat=ground[0]):
                if not self.assert_told(ground, load):
                    paid = [counts for counts in tries if min(slow_fired(ground, load, counts)) >= 0]
                    self.assertEqual(paid, [], (ground, load))

    def test_what_is_no_load_is_refused(self):
        for ground in (ONE, PAIR, SQUARE, HOUSE):
            for number, thing in enumerate(no_loads(ground)):
                with self.subTest(number):
                    self.assertRaises(NoLoad, won, ground, thing)

    def test_what_is_no_ground_is_refused(self):
        for number, thing in enumerate(NO_GROUNDS):
            with self.subTest(number):
                self.assertRaises(NoGround, won, thing, (0,))

    def test_the_lists_are_new_ones_each_time(self):
        for load in ((2, 0, 0), (-1, 0, 0)):
            kept = [list(part) if isinstance(part, list) else part for part in won(RING, load)]
            for part in won(RING, load):
                if isinstance(part, list):
                    part.append("spoilt")
                    part[0] = 77
            self.assertEqual(list(won(RING, load)), kept)

    def test_what_is_refused_stays_as_it_was(self):
        thing = [1, -1]
        self.assertRaises(NoLoad, won, PAIR, thing)
        self.assertEqual(thing, [1, -1])
