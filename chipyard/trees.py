"""Parkings and trees, how the one leads to the other, and the knots of a ground.

Within, parts are a list: for each yard the least yard that can be come to from it, along the lines chosen so far.
"""

from chipyard.errors import NoLoad, NoTree
from chipyard.grounds import checked, checked_yard, is_joined, is_load, is_number, line_table
from chipyard.matrices import determinant, invariants
from chipyard.settling import burning, burnt_yards, inner_rows, lines_to


def parkings(ground, bank):
    checked_yard(ground, bank)
    table = line_table(ground)
    begun = [()]
    for yard in range(len(table)):
        begun = lengthened(table, bank, begun)
    return begun


def how_many_trees(ground):
    checked(ground)
    return determinant(inner_rows(line_table(ground), 0))


def trees(ground):
    checked(ground)
    return trees_among(ground_lines(ground), list(range(ground[0])))


def tree_of(ground, parking, bank):
    checked_yard(ground, bank)
    checked_parking(ground, parking, bank)
    table = line_table(ground)
    tree = []
    below = []
    layer = [bank]
    while layer:
        reached = below + layer
        farther = [yard for yard in yards_beside(table, reached) if parking[yard] < lines_to(table, yard, reached)]
        for yard in farther:
            place = parking[yard] - lines_to(table, yard, below)
            tree.append(lines_toward(table, yard, layer)[place])
        below = reached
        layer = farther
    return sorted(tree)


def parking_of(ground, tree, bank):
    checked_yard(ground, bank)
    checked_tree(ground, tree)
    table = line_table(ground)
    chips = [0] * len(table)
    below = []
    layer = [bank]
    while layer:
        reached = below + layer
        farther = [yard for yard in yards_beside(table, reached) if tree_places(table, yard, layer, tree)]
        for yard in farther:
            # There is just one place: a second line to the layer would close a ring.
            chips[yard] = lines_to(table, yard, below) + tree_places(table, yard, layer, tree)[0]
        below = reached
        layer = farther
    return tuple(chips)


def knots(ground):
    checked(ground)
    return [number for number in invariants(inner_rows(line_table(ground), 0)) if number != 1]


def lengthened(table, bank, begun):
    found = []
    for start in begun:
        yard = len(start)
        for chips in range(1 if yard == bank else sum(table[yard])):
            # The later yards are left empty: what does not burn so burns with no more chips either, here or there.
            load = start + (chips,) + (0,) * (len(table) - yard - 1)
            if len(burnt_yards(table, load, bank)) < len(table):
                break
            found.append(start + (chips,))
    return found


def checked_parking(ground, thing, bank):
    if not is_load(ground, thing) or thing[bank] != 0 or burning(ground, thing, bank) is None:
        raise NoLoad("this is no parking for the bank")
    return thing


def checked_tree(ground, thing):
    if not is_tree(ground, thing):
        raise NoTree("this is no tree of the ground")
    return thing


def is_tree(ground, thing):
    if not isinstance(thing, list) or len(thing) != ground[0] - 1:
        return False
    lines = ground_lines(ground)
    if not all([is_line(lines, line) for line in thing]):
        return False
    return all([one < other for one, other in zip(thing, thing[1:])]) and is_joined(ground[0], thing)


def is_line(lines, thing):
    if not isinstance(thing, tuple) or not all([is_number(part) for part in thing]):
        return False
    return thing in lines


def ground_lines(ground):
    lines = []
    for a, b, number in ground[1]:
        lines.extend([(a, b, k) for k in range(number)])
    return lines


def trees_among(lines, parts):
    if max(parts) == 0:
        return [[]]
    found = []
    for place, line in enumerate(lines):
        if parts[line[0]] != parts[line[1]]:
            joined = with_line(parts, line)
            found.extend([[line] + others for others in trees_among(lines[place + 1:], joined)])
    return found


def with_line(parts, line):
    ends = (parts[line[0]], parts[line[1]])
    return [min(ends) if part in ends else part for part in parts]


def yards_beside(table, reached):
    return [yard for yard in range(len(table)) if yard not in reached]


def lines_toward(table, yard, others):
    lines = []
    for other in sorted(others):
        lines.extend([(min(yard, other), max(yard, other), k) for k in range(table[yard][other])])
    return lines


def tree_places(table, yard, layer, tree):
    return [place for place, line in enumerate(lines_toward(table, yard, layer)) if line in tree]
