"""Grounds, loads and counts: what is one, and what load comes of firing.

A bundle is a tuple (a, b, number) of a ground: all the lines between two yards.
"""

from chipyard.errors import NoCounts, NoGround, NoLoad, NoYard

MOST_YARDS = 5
MOST_LINES = 4


def checked(ground):
    if not is_ground(ground):
        raise NoGround("this is no ground")
    return ground


def is_load(ground, thing):
    checked(ground)
    return isinstance(thing, tuple) and has_number_for_each_yard(ground, thing)


def degree(ground, yard):
    checked(ground)
    return sum([number for a, b, number in ground[1] if yard == a or yard == b])


def lines_between(ground, one, other):
    checked(ground)
    ends = (min(one, other), max(one, other))
    return sum([number for a, b, number in ground[1] if (a, b) == ends])


def fired(ground, load, counts):
    checked_load(ground, load)
    if not isinstance(counts, list) or not has_number_for_each_yard(ground, counts):
        raise NoCounts("these are no counts for the ground")
    return moved(ground, load, counts)


def checked_load(ground, load):
    if not is_load(ground, load):
        raise NoLoad("this is no load for the ground")
    return load


def checked_yard(ground, yard):
    checked(ground)
    if not is_number_within(yard, 0, ground[0] - 1):
        raise NoYard("this is no yard of the ground")
    return yard


def moved(ground, load, counts):
    chips = list(load)
    for a, b, number in ground[1]:
        # Only the difference of the two counts crosses a bundle: what both send is made up for.
        sent = number * (counts[a] - counts[b])
        chips[a] = chips[a] - sent
        chips[b] = chips[b] + sent
    return tuple(chips)


def line_table(ground):
    table = [[0] * ground[0] for yard in range(ground[0])]
    for a, b, number in ground[1]:
        table[a][b] = number
        table[b][a] = number
    return table


def is_number(thing):
    # To Python True and False are whole numbers; here they are none.
    return isinstance(thing, int) and not isinstance(thing, bool)


def is_number_within(thing, least, most):
    return is_number(thing) and least <= thing <= most


def has_number_for_each_yard(ground, things):
    return len(things) == ground[0] and all([is_number(thing) for thing in things])


def is_ground(thing):
    if not isinstance(thing, tuple) or len(thing) != 2:
        return False
    many = thing[0]
    bundles = thing[1]
    if not is_number_within(many, 1, MOST_YARDS) or not isinstance(bundles, tuple):
        return False
    if not all([is_bundle(many, bundle) for bundle in bundles]):
        return False
    return do_rise(bundles) and is_joined(many, bundles)


def is_bundle(many, thing):
    if not isinstance(thing, tuple) or len(thing) != 3:
        return False
    if not is_number_within(thing[0], 0, many - 1):
        return False
    return is_number_within(thing[1], thing[0] + 1, many - 1) and is_number_within(thing[2], 1, MOST_LINES)


def do_rise(bundles):
    # Without the numbers of lines, so that bundles with the same yards don't count as rising.
    return all([one[:2] < other[:2] for one, other in zip(bundles, bundles[1:])])


def is_joined(many, bundles):
    reached = {0: True}
    # A round that reaches nothing is followed by none that does, so as many rounds as yards are enough.
    for round_number in range(many):
        for a, b, number in bundles:
            if a in reached or b in reached:
                reached[a] = True
                reached[b] = True
    return len(reached) == many
