"""Ranks: how many chips a load can lose, wherever they are taken, and a take of one more that shows it."""

from chipyard.grounds import checked, checked_load, line_table
from chipyard.settling import burnt_down, lines_to, settled
from chipyard.winning import BANK, won


def rank(ground, load):
    checked_load(ground, load)
    if sum(load) < rings(ground):
        take = searched_take(ground, load)
    else:
        # A great load can lose too many chips to try them all; its counterpart is small, and has a take that helps.
        other = less(counterload(ground), load)
        take = filling(ground, less(other, searched_take(ground, other)))
    return (sum(take) - 1, take)


def rings(ground):
    checked(ground)
    return sum([number for a, b, number in ground[1]]) - ground[0] + 1


def counterload(ground):
    checked(ground)
    return tuple([sum(lines) - 2 for lines in line_table(ground)])


def searched_take(ground, load):
    # Each round holds what all takes of one chip more can leave, settled, so that alike ones are tried once.
    left = {settled(ground, load, BANK)[0]: (0,) * len(load)}
    missing = [settled(ground, less((0,) * len(load), chip), BANK)[0] for chip in single_chips(len(load))]
    while not any([after[BANK] < 0 for after in left]):
        left = with_a_chip_less(ground, left, missing)
    return [left[after] for after in left if after[BANK] < 0][0]


def with_a_chip_less(ground, left, missing):
    fewer = {}
    nothing = [0] * ground[0]
    for before, take in left.items():
        for chip, lack in zip(single_chips(ground[0]), missing):
            # The chip's lack is added settled, so that the bank alone can come into debt.
            after = burnt_down(ground, added(before, lack), nothing, BANK)[0]
            if after not in fewer:
                fewer[after] = added(take, chip)
    return fewer


def filling(ground, load):
    # The most chips that a load which is not won can get without being won: each yard as many as still let it burn.
    # The counterload less a load filled so is one filled by the burning turned about, and not won either. So what
    # fills the counterpart, when its take is gone, is a take from the load.
    debt = won(ground, load)
    after = debt[2]
    order = debt[3]
    table = line_table(ground)
    ahead = [lines_to(table, yard, order[:order.index(yard)]) for yard in range(len(load))]
    return tuple([lines - 1 - chips for lines, chips in zip(ahead, after)])


def single_chips(many):
    return [(0,) * yard + (1,) + (0,) * (many - yard - 1) for yard in range(many)]


def added(one, other):
    return tuple([chips + more for chips, more in zip(one, other)])


def less(one, other):
    return tuple([chips - fewer for chips, fewer in zip(one, other)])
