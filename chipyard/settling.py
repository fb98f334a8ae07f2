"""Settled loads, their burnings, and which loads are alike.

Within, a ground goes by its table: for each yard a list of its lines to each yard.
"""

from chipyard.grounds import checked_load, checked_yard, line_table, moved
from chipyard.matrices import determinant, numerators


def settled(ground, load, bank):
    checked_load(ground, load)
    checked_yard(ground, bank)
    return burnt_down(ground, load, counts_out_of_debt(line_table(ground), load, bank), bank)


def burning(ground, load, bank):
    checked_load(ground, load)
    checked_yard(ground, bank)
    table = line_table(ground)
    # A yard in debt would burn at once, so debts are looked for ahead of the burning.
    if any([load[yard] < 0 for yard in yards_without(table, bank)]):
        return None
    burnt = burnt_yards(table, load, bank)
    return burnt if len(burnt) == len(table) else None


def alike(ground, one, other):
    checked_load(ground, one)
    checked_load(ground, other)
    if sum(one) != sum(other):
        return None
    # The same number added to all counts changes no load, so yard 0 may be left without firings.
    rows = inner_rows(line_table(ground), 0)
    whole = determinant(rows)
    parts = numerators(rows, [one[yard] - other[yard] for yard in range(1, len(one))])
    if any([part % whole != 0 for part in parts]):
        return None
    return [0] + [part // whole for part in parts]


def counts_out_of_debt(table, load, bank):
    # These would leave each other yard as many chips as it has lines, were they not rounded down.
    # Rounding changes a yard by less than that: no debt is left, and few chips, however great the load.
    rows = inner_rows(table, bank)
    whole = determinant(rows)
    parts = numerators(rows, [load[yard] - sum(table[yard]) for yard in yards_without(table, bank)])
    counts = [part // whole for part in parts]
    return counts[:bank] + [0] + counts[bank:]


def burnt_down(ground, load, counts, bank):
    # The counts must leave no debt without the bank.
    table = line_table(ground)
    burnt = burnt_yards(table, moved(ground, load, counts), bank)
    while len(burnt) < len(table):
        # The yards that don't burn have chips for all their lines to those that do: they can fire as one.
        counts = [count if yard in burnt else count + 1 for yard, count in enumerate(counts)]
        burnt = burnt_yards(table, moved(ground, load, counts), bank)
    return (moved(ground, load, counts), counts)


def inner_rows(table, bank):
    return [inner_row(table, bank, yard) for yard in yards_without(table, bank)]


def inner_row(table, bank, yard):
    # How many chips the yard loses by one firing of each yard without the bank.
    lines = table[yard]
    return [sum(lines) if other == yard else -lines[other] for other in yards_without(table, bank)]


def burnt_yards(table, load, bank):
    burnt = [bank]
    # A round that burns nothing is followed by none that does, so as many rounds as yards are enough.
    for round_number in range(len(table)):
        for yard in yards_without(table, bank):
            if yard not in burnt and load[yard] < lines_to(table, yard, burnt):
                burnt.append(yard)
    return burnt


def lines_to(table, yard, others):
    return sum([table[yard][other] for other in others])


def yards_without(table, bank):
    return [yard for yard in range(len(table)) if yard != bank]
