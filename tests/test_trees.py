import copy
import unittest
from itertools import product
from math import gcd, prod

from chipyard.errors import NoGround, NoLoad, NoTree, NoYard
from chipyard.grounds import degree, lines_between
from chipyard.settling import alike, settled
from chipyard.trees import how_many_trees, knots, parking_of, parkings, tree_of, trees
from tests.samples import (BIG, FIVE_RING, FULL_FIVE, FULL_FOUR, GROUNDS, HOUSE, NO_NUMBERS, ONE, PAIR, PATH, RING,
                           SMALL, SQUARE, STAR, THICK_PAIR, TREE, UNEVEN, all_lines, slow_settled, slow_trees,
                           small_grounds)
from tests.test_grounds import NO_GROUNDS, no_loads
from tests.test_settling import no_yards, with_bank

BUT_THE_GREATEST = GROUNDS[:-1]
MIXED = (5, ((0, 1, 4), (0, 3, 1), (1, 2, 2), (1, 4, 1), (2, 3, 3), (3, 4, 2)))


def slow_parkings(ground, bank):
    """Every parking, by trying every load below the degrees."""
    ranges = [[0] if yard == bank else range(degree(ground, yard)) for yard in range(ground[0])]
    return [load for load in product(*ranges) if slow_settled(ground, load, bank)]


def layers_in(ground, tree, bank):
    """How many lines of the tree lie between the bank and each yard."""
    layers = {bank: 0}
    while len(layers) < ground[0]:
        for a, b, k in tree:
            for one, other in ((a, b), (b, a)):
                if one in layers and other not in layers:
                    layers[other] = layers[one] + 1
    return layers


def no_trees(ground, tree):
    """What is no tree of the ground, most of it close to one that is."""
    wrong = [thing for thing in NO_NUMBERS if not isinstance(thing, list)]
    wrong += [0, 7, "tree", tuple(tree), dict.fromkeys(tree), set(tree), [tree], [None], [()], [[]], [0], [""]]
    wrong += [tree + [line] for line in all_lines(ground) + [None, (0, 0, 0), (0, 1, BIG)]]
    for place, line in enumerate(tree):
        a, b, k = line
        number = lines_between(ground, a, b)
        others = [None, list(line), line[:2], line + (0,), (), 0, "012", (b, a, k), (a, a, k), (a, b, number)]
        others += [(a, b, -1), (a, b, BIG), (a, 5, 0), (-1, b, k), (float(a), b, k), (a, float(b), k), {a: b}]
        others += [(a, b, thing) for thing in NO_NUMBERS] + [(thing, b, k) for thing in NO_NUMBERS]
        others += [(a, thing, k) for thing in NO_NUMBERS] + list(NO_NUMBERS)
        wrong += [tree[:place] + [other] + tree[place + 1:] for other in others]
        wrong += [tree[:place] + tree[place + 1:], tree[:place] + [line] + tree[place:]]
    if len(tree) > 1:
        wrong += [tree[::-1], tree[1:] + tree[:1], [tree[0]] * len(tree)]
    return wrong


class Parkings(unittest.TestCase):
    def test_some_by_hand(self):
        self.assertEqual(parkings(ONE, 0), [(0,)])
        self.assertEqual(parkings(PAIR, 1), [(0, 0)])
        self.assertEqual(parkings(THICK_PAIR, 0), [(0, 0), (0, 1), (0, 2), (0, 3)])
        self.assertEqual(parkings(THICK_PAIR, 1), [(0, 0), (1, 0), (2, 0), (3, 0)])
        self.assertEqual(parkings(RING, 1), [(0, 0, 0), (0, 0, 1), (1, 0, 0)])
        self.assertEqual(parkings(TREE, 2), [(0, 0, 0, 0, 0)])

    def test_against_all_loads_below_the_degrees(self):
        for ground in list(small_grounds()) + [SQUARE, STAR, FULL_FOUR, TREE, FIVE_RING, HOUSE, MIXED]:
            for bank in range(ground[0]):
                # The slow way goes through the loads in rising order.
                self.assertEqual(parkings(ground, bank), slow_parkings(ground, bank), (ground, bank))

    def test_as_many_as_trees_for_whatever_bank(self):
        for ground in list(small_grounds()) + list(BUT_THE_GREATEST) + [MIXED]:
            many = len(slow_trees(ground))
            self.assertEqual([len(parkings(ground, bank)) for bank in range(ground[0])], [many] * ground[0])

    def test_the_greatest_ground(self):
        found = parkings(FULL_FIVE, 3)
        self.assertEqual(len(found), 32000)
        self.assertEqual(found, sorted(set(found)))
        self.assertEqual([load for load in found if load[3] != 0 or min(load) < 0 or max(load) > 15], [])

    def test_wrong_inputs(self):
        for ground in (ONE, PAIR, HOUSE):
            for number, thing in enumerate(no_yards(ground)):
                with self.subTest(number):
                    self.assertRaises(NoYard, parkings, ground, thing)

    def test_the_list_is_a_new_one_each_time(self):
        for ground in BUT_THE_GREATEST:
            kept = list(parkings(ground, 0))
            parkings(ground, 0).append("spoilt")
            self.assertEqual(parkings(ground, 0), kept)


class Trees(unittest.TestCase):
    def test_some_by_hand(self):
        self.assertEqual(trees(ONE), [[]])
        self.assertEqual(trees(PAIR), [[(0, 1, 0)]])
        self.assertEqual(trees(THICK_PAIR), [[(0, 1, 0)], [(0, 1, 1)], [(0, 1, 2)], [(0, 1, 3)]])
        self.assertEqual(trees(PATH), [[(0, 1, 0), (1, 2, 0)]])
        self.assertEqual(trees(RING), [[(0, 1, 0), (0, 2, 0)], [(0, 1, 0), (1, 2, 0)], [(0, 2, 0), (1, 2, 0)]])

    def test_against_all_choices_of_lines(self):
        for ground in list(small_grounds()) + list(BUT_THE_GREATEST) + [MIXED]:
            found = trees(ground)
            # Choices of rising lines come in rising order.
            self.assertEqual(found, slow_trees(ground))
            self.assertEqual(how_many_trees(ground), len(found))

    def test_the_greatest_ground(self):
        found = trees(FULL_FIVE)
        self.assertEqual(len(found), 32000)
        self.assertEqual(how_many_trees(FULL_FIVE), 32000)
        self.assertTrue(all(one < other for one, other in zip(found, found[1:])))

    def test_how_many_by_hand(self):
        told = [how_many_trees(ground) for ground in (ONE, PAIR, THICK_PAIR, PATH, RING, UNEVEN, SQUARE, FULL_FOUR)]
        self.assertEqual(told, [1, 1, 4, 1, 3, 11, 4, 16])

    def test_all_lists_are_new_ones_each_time(self):
        for ground in BUT_THE_GREATEST:
            kept = copy.deepcopy(trees(ground))
            spoilt = trees(ground)
            spoilt[0].append("spoilt")
            self.assertEqual(spoilt[1:], kept[1:])
            spoilt.append("spoilt")
            self.assertEqual(trees(ground), kept)


class TreeOf(unittest.TestCase):
    def assert_as_told(self, ground, parking, bank, tree):
        layers = layers_in(ground, tree, bank)
        for yard in range(ground[0]):
            if yard != bank:
                layer = layers[yard]
                below = [sum(lines_between(ground, yard, other) for other in layers if layers[other] < bound)
                         for bound in (layer, layer - 1)]
                self.assertLess(parking[yard], below[0])
                self.assertGreaterEqual(parking[yard], below[1])
                near = [line for line in all_lines(ground) if yard in line[:2]
                        and layers[line[0] + line[1] - yard] == layer - 1]
                self.assertIn(near[parking[yard] - below[1]], tree, (ground, parking, bank, tree))

    def test_some_by_hand(self):
        self.assertEqual(tree_of(ONE, (0,), 0), [])
        self.assertEqual(tree_of(PAIR, (0, 0), 1), [(0, 1, 0)])
        self.assertEqual(tree_of(THICK_PAIR, (0, 3), 0), [(0, 1, 3)])
        self.assertEqual(tree_of(UNEVEN, (0, 1, 2), 0), [(0, 1, 1), (0, 2, 2)])
        self.assertEqual(tree_of(UNEVEN, (0, 2, 0), 0), [(0, 2, 0), (1, 2, 0)])
        self.assertEqual(tree_of(UNEVEN, (3, 0, 0), 2), [(0, 1, 0), (1, 2, 0)])
        self.assertEqual(tree_of(UNEVEN, (4, 0, 0), 2), [(0, 1, 1), (1, 2, 0)])

    def test_each_parking_has_a_tree_as_told_and_leads_back(self):
        for ground in list(small_grounds()) + list(BUT_THE_GREATEST) + [MIXED]:
            expected = slow_trees(ground)
            for bank in range(ground[0]):
                found = parkings(ground, bank)
                told = [tree_of(ground, parking, bank) for parking in found]
                self.assertEqual(sorted(told), expected)
                for parking, tree in zip(found, told):
                    self.assert_as_told(ground, parking, bank, tree)
                    self.assertEqual(parking_of(ground, tree, bank), parking)

    def test_the_greatest_ground(self):
        expected = trees(FULL_FIVE)
        found = parkings(FULL_FIVE, 2)
        told = [tree_of(FULL_FIVE, parking, 2) for parking in found]
        self.assertEqual(sorted(told), expected)
        for parking, tree in list(zip(found, told))[::101]:
            self.assert_as_told(FULL_FIVE, parking, 2, tree)
            self.assertEqual(parking_of(FULL_FIVE, tree, 2), parking)

    def test_what_is_no_yard_is_refused_ahead(self):
        for ground in (ONE, PAIR, HOUSE):
            for number, thing in enumerate(no_yards(ground)):
                with self.subTest(number):
                    for parking in ((0,) * ground[0], None, (), (1,) * ground[0], [0] * ground[0]):
                        self.assertRaises(NoYard, tree_of, ground, parking, thing)

    def test_what_is_no_load_is_refused(self):
        for ground in (ONE, PAIR, HOUSE):
            for number, thing in enumerate(no_loads(ground)):
                with self.subTest(number):
                    self.assertRaises(NoLoad, tree_of, ground, thing, ground[0] - 1)

    def test_what_is_no_parking_is_refused(self):
        for ground in SMALL + (STAR, FULL_FOUR, FIVE_RING):
            for bank in range(ground[0]):
                found = slow_parkings(ground, bank)
                for load in product(*[range(-1, degree(ground, yard) + 1) for yard in range(ground[0])]):
                    if load not in found:
                        self.assertRaises(NoLoad, tree_of, ground, load, bank)

    def test_a_bank_with_chips_or_in_debt_is_no_parking(self):
        for ground in GROUNDS:
            for bank in range(ground[0]):
                for chips in (1, -1, BIG, -BIG):
                    self.assertRaises(NoLoad, tree_of, ground, with_bank((0,) * ground[0], bank, chips), bank)

    def test_a_parking_of_another_bank_may_be_none(self):
        self.assertEqual(tree_of(THICK_PAIR, (0, 1), 0), [(0, 1, 1)])
        self.assertRaises(NoLoad, tree_of, THICK_PAIR, (0, 1), 1)

    def test_the_list_is_a_new_one_each_time(self):
        for ground in GROUNDS:
            parking = (0,) * ground[0]
            kept = list(tree_of(ground, parking, 0))
            tree_of(ground, parking, 0).append("spoilt")
            self.assertEqual(tree_of(ground, parking, 0), kept)


class ParkingOf(unittest.TestCase):
    def test_some_by_hand(self):
        self.assertEqual(parking_of(ONE, [], 0), (0,))
        self.assertEqual(parking_of(THICK_PAIR, [(0, 1, 2)], 1), (2, 0))
        self.assertEqual(parking_of(UNEVEN, [(0, 2, 2), (1, 2, 0)], 0), (0, 2, 2))
        self.assertEqual(parking_of(UNEVEN, [(0, 1, 1), (1, 2, 0)], 2), (4, 0, 0))

    def test_each_tree_comes_of_just_one_parking(self):
        for ground in list(small_grounds()) + list(BUT_THE_GREATEST) + [MIXED]:
            for bank in range(ground[0]):
                told = [parking_of(ground, tree, bank) for tree in slow_trees(ground)]
                self.assertEqual(sorted(told), parkings(ground, bank))

    def test_what_is_no_yard_is_refused_ahead(self):
        for ground in (ONE, PAIR, HOUSE):
            for number, thing in enumerate(no_yards(ground)):
                with self.subTest(number):
                    for tree in (trees(ground)[0], None, (), [None], [(0, 1, True)] * (ground[0] - 1)):
                        self.assertRaises(NoYard, parking_of, ground, tree, thing)

    def test_what_is_no_tree_is_refused(self):
        for ground in (ONE, PAIR, THICK_PAIR, RING, UNEVEN, STAR, HOUSE, FULL_FIVE):
            for tree in (trees(ground)[0], trees(ground)[-1]):
                for number, thing in enumerate(no_trees(ground, tree)):
                    with self.subTest(number):
                        self.assertRaises(NoTree, parking_of, ground, thing, 0)

    def test_a_list_of_none_is_no_tree_but_of_one_yard(self):
        for ground in GROUNDS[1:]:
            self.assertRaises(NoTree, parking_of, ground, [], 0)

    def test_any_choice_of_lines_is_a_tree_or_refused(self):
        for ground in (THICK_PAIR, RING, UNEVEN, SQUARE, FULL_FOUR, STAR):
            found = slow_trees(ground)
            for choice in product(all_lines(ground), repeat=ground[0] - 1):
                if list(choice) in found:
                    self.assertIn(parking_of(ground, list(choice), 0), parkings(ground, 0))
                else:
                    self.assertRaises(NoTree, parking_of, ground, list(choice), 0)

    def test_lines_that_close_a_ring_are_no_tree(self):
        lines = [(0, 1, 0), (0, 2, 0), (1, 2, 0)]
        self.assertRaises(NoTree, parking_of, FULL_FOUR, lines, 0)
        self.assertRaises(NoTree, parking_of, RING, lines, 0)
        self.assertRaises(NoTree, parking_of, STAR, [(1, 2, 0), (1, 2, 1), (2, 3, 0)], 0)

    def test_what_is_handed_in_stays_as_it_was(self):
        for ground in BUT_THE_GREATEST:
            for tree in trees(ground)[:9]:
                kept = list(tree)
                first = parking_of(ground, tree, 0)
                self.assertEqual(tree, kept)
                self.assertEqual(parking_of(ground, tree, 0), first)
        falling = [(1, 2, 0), (0, 1, 0)]
        self.assertRaises(NoTree, parking_of, PATH, falling, 0)
        self.assertEqual(falling, [(1, 2, 0), (0, 1, 0)])


class Knots(unittest.TestCase):
    def test_some_by_hand(self):
        self.assertEqual([knots(ground) for ground in (ONE, PAIR, PATH, TREE)], [[], [], [], []])
        self.assertEqual(knots(THICK_PAIR), [4])
        self.assertEqual(knots(RING), [3])
        self.assertEqual(knots(UNEVEN), [11])
        self.assertEqual(knots(STAR), [2, 4])
        self.assertEqual(knots(FULL_FOUR), [4, 4])
        self.assertEqual(knots((3, ((0, 1, 2), (1, 2, 3)))), [6])
        self.assertEqual(knots((4, ((0, 1, 2), (0, 2, 3), (0, 3, 4)))), [2, 12])
        self.assertEqual(knots((5, ((0, 1, 4), (0, 2, 4), (0, 3, 4), (0, 4, 4)))), [4, 4, 4, 4])
        self.assertEqual(knots(FULL_FIVE), [4, 20, 20, 20])

    def test_above_one_each_dividing_the_next_with_the_trees_as_product(self):
        for ground in list(small_grounds()) + list(GROUNDS) + [MIXED]:
            told = knots(ground)
            self.assertIsInstance(told, list)
            self.assertTrue(all(number > 1 for number in told))
            self.assertTrue(all(after % before == 0 for before, after in zip(told, told[1:])))
            self.assertEqual(prod(told), how_many_trees(ground))

    def test_loads_of_size_nought_come_together_as_rests(self):
        # Two ways of putting together are the same if, for each number, as many things come to nought so many times.
        for ground in list(small_grounds())[::3] + list(BUT_THE_GREATEST) + [MIXED]:
            nought = (0,) * ground[0]
            classes = [with_bank(load, 0, -sum(load)) for load in parkings(ground, 0)]
            most = (knots(ground) or [1])[-1]
            for times in [number for number in range(1, most + 1) if most % number == 0]:
                gone = [load for load in classes if alike(ground, tuple(times * n for n in load), nought) is not None]
                self.assertEqual(len(gone), prod(gcd(times, number) for number in knots(ground)), (ground, times))

    def test_the_list_is_a_new_one_each_time(self):
        for ground in GROUNDS:
            kept = list(knots(ground))
            knots(ground).append("spoilt")
            self.assertEqual(knots(ground), kept)


class Classes(unittest.TestCase):
    def test_the_parkings_stand_for_the_classes(self):
        for ground in BUT_THE_GREATEST:
            for bank in range(ground[0]):
                found = parkings(ground, bank)
                even = [with_bank(load, bank, -sum(load)) for load in found]
                self.assertEqual([settled(ground, load, bank)[0] for load in even], even)


class Grounds(unittest.TestCase):
    def test_what_is_no_ground_is_refused(self):
        for number, thing in enumerate(NO_GROUNDS):
            with self.subTest(number):
                for function in (how_many_trees, trees, knots):
                    self.assertRaises(NoGround, function, thing)
                self.assertRaises(NoGround, parkings, thing, 0)
                self.assertRaises(NoGround, tree_of, thing, (0,), 0)
                self.assertRaises(NoGround, parking_of, thing, [], 0)
