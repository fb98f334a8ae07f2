"""Square matrices of whole numbers, as lists of rows, solved without leaving the whole numbers."""


def determinant(rows):
    if not rows:
        return 1
    total = 0
    sign = 1
    for place, number in enumerate(rows[0]):
        total = total + sign * number * determinant(without_column(rows[1:], place))
        sign = -sign
    return total


def numerators(rows, column):
    # Cramer's rule: these, each divided by the determinant, solve rows times solution = column.
    return [determinant(with_column(rows, place, column)) for place in range(len(rows))]


def without_column(rows, place):
    return [row[:place] + row[place + 1:] for row in rows]


def with_column(rows, place, column):
    return [row[:place] + [number] + row[place + 1:] for row, number in zip(rows, column)]
