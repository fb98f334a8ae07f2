"""Grounds, loads and wrong things that several tests go through, and slow ways to look at them."""

from itertools import combinations, combinations_with_replacement, product

ONE = (1, ())
PAIR = (2, ((0, 1, 1),))
THICK_PAIR = (2, ((0, 1, 4),))
PATH = (3, ((0, 1, 1), (1, 2, 1)))
RING = (3, ((0, 1, 1), (0, 2, 1), (1, 2, 1)))
UNEVEN = (3, ((0, 1, 2), (0, 2, 3), (1, 2, 1)))
SQUARE = (4, ((0, 1, 1), (0, 3, 1), (1, 2, 1), (2, 3, 1)))
STAR = (4, ((0, 2, 1), (1, 2, 4), (2, 3, 2)))
FULL_FOUR = (4, ((0, 1, 1), (0, 2, 1), (0, 3, 1), (1, 2, 1), (1, 3, 1), (2, 3, 1)))
TREE = (5, ((0, 4, 1), (1, 3, 1), (1, 4, 1), (2, 3, 1)))
FIVE_RING = (5, ((0, 1, 1), (0, 4, 2), (1, 2, 3), (2, 3, 4), (3, 4, 1)))
HOUSE = (5, ((0, 1, 1), (0, 2, 2), (1, 3, 1), (2, 3, 1), (2, 4, 3), (3, 4, 1)))
FULL_FIVE = (5, tuple((a, b, 4) for a, b in combinations(range(5), 2)))

SMALL = (ONE, PAIR, THICK_PAIR, PATH, RING, UNEVEN, SQUARE)
GROUNDS = SMALL + (STAR, FULL_FOUR, TREE, FIVE_RING, HOUSE, FULL_FIVE)

BIG = 9876543210987654321


class Unequal:
    """Can be neither compared, nor counted, nor walked, nor shown."""

    def fail(self, *others):
        raise RuntimeError("it was looked into")

    __eq__ = __lt__ = __gt__ = __le__ = __ge__ = fail
    __len__ = __iter__ = __getitem__ = __bool__ = __index__ = __int__ = __repr__ = __str__ = fail
    __hash__ = None


NO_NUMBERS = (None, True, False, "0", "", 0.0, 1.0, float("nan"), 1j, b"1", (), (0,), [], [0], {}, {0: 0},
              {0}, int, len, object(), Unequal(), range(1))


def rests(start):
    """Numbers without end that look mixed and are the same each time."""
    state = start
    while True:
        state = (state * 6364136223846793005 + 1442695040888963407) % 2 ** 64
        yield state >> 20


def loads_for(ground):
    many = ground[0]
    yield (0,) * many
    yield (1,) * many
    yield (-7,) * many
    yield tuple(range(many))
    yield tuple(range(0, -3 * many, -3))
    yield tuple(BIG - 10 ** 17 * yard for yard in range(many))
    yield tuple((-1) ** yard * (BIG + yard) for yard in range(many))
    numbers = rests(many)
    for width in (5, 5, 40, 10 ** 4, 10 ** 19):
        yield tuple(next(numbers) * next(numbers) % (2 * width) - width for yard in range(many))


def small_grounds():
    """Every ground of 1 to 3 yards."""
    yield ONE
    for many in (2, 3):
        pairs = list(combinations(range(many), 2))
        for numbers in product(range(5), repeat=len(pairs)):
            if sum(number > 0 for number in numbers) >= many - 1:
                yield (many, tuple(pair + (number,) for pair, number in zip(pairs, numbers) if number))


def slow_lines(ground, one, other):
    return {frozenset(line[:2]): line[2] for line in ground[1]}.get(frozenset((one, other)), 0)


def slow_fired(ground, load, counts):
    yards = range(ground[0])
    return tuple(
        load[yard]
        - sum(slow_lines(ground, yard, other) for other in yards) * counts[yard]
        + sum(slow_lines(ground, yard, other) * counts[other] for other in yards)
        for yard in yards
    )


def slow_settled(ground, load, bank):
    """Whether the load is settled, by trying every choice of yards."""
    others = [yard for yard in range(ground[0]) if yard != bank]
    if any(load[yard] < 0 for yard in others):
        return False
    for many in range(1, len(others) + 1):
        for choice in combinations(others, many):
            after = slow_fired(ground, load, [int(yard in choice) for yard in range(ground[0])])
            if all(after[yard] >= 0 for yard in choice):
                return False
    return True


def all_lines(ground):
    return [(a, b, k) for a, b, number in ground[1] for k in range(number)]


def slow_trees(ground):
    """Every tree, by trying every choice of lines."""
    choices = combinations(all_lines(ground), ground[0] - 1)
    return [list(choice) for choice in choices if joins_all(ground[0], [line[:2] for line in choice])]


def all_takes(many, chips):
    """Every load of many yards without debts, with so many chips."""
    for yards in combinations_with_replacement(range(many), chips):
        yield tuple(yards.count(yard) for yard in range(many))


def joins_all(many, lines):
    parts = list(range(many))
    for a, b in lines:
        parts = [parts[a] if part == parts[b] else part for part in parts]
    return len(set(parts)) == 1
