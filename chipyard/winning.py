"""Whether a load can be paid: a way to a load without debt, or a debt that no firings pay."""

from chipyard.settling import burning, settled

BANK = 0


def won(ground, load):
    result = settled(ground, load, BANK)
    after = result[0]
    counts = result[1]
    # Of all alike loads without debts elsewhere, none has more in the bank than the settled one.
    if after[BANK] >= 0:
        return ("way", counts)
    return ("debt", counts, after, burning(ground, after, BANK))
