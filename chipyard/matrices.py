"""Square matrices of whole numbers, as lists of rows, dealt with without leaving the whole numbers."""


def determinant(rows):
    if not rows:
        return 1
    total = 0
    sign = 1
    for place, number in enumerate(rows[0]):
        total = total + sign * number * determinant(without_column(rows[1:], place))
        sign = -sign
    return total


def numerators(rows, column):
    # Cramer's rule: these, each divided by the determinant, solve rows times solution = column.
    return [determinant(with_column(rows, place, column)) for place in range(len(rows))]


def invariants(rows):
    # Whole-number steps on rows and columns bring the matrix to a diagonal of these, each dividing the next. They can
    # be told without the steps, which leave the common divisors of all determinants within the matrix as they are.
    divisors = [common_divisor(smaller_determinants(rows, size)) for size in range(len(rows) + 1)]
    return [further // before for before, further in zip(divisors, divisors[1:])]


def smaller_determinants(rows, size):
    found = []
    for some in choices(rows, size):
        columns = [column_at(some, place) for place in range(len(rows))]
        found.extend([determinant(chosen) for chosen in choices(columns, size)])
    return found


def choices(things, many):
    if many == 0:
        return [[]]
    found = []
    for place, thing in enumerate(things):
        found.extend([[thing] + others for others in choices(things[place + 1:], many - 1)])
    return found


def common_divisor(numbers):
    divisor = 0
    for number in numbers:
        rest = abs(number)
        while rest:
            before = divisor
            divisor = rest
            rest = before % rest
    return divisor


def column_at(rows, place):
    return [row[place] for row in rows]


def without_column(rows, place):
    return [row[:place] + row[place + 1:] for row in rows]


def with_column(rows, place, column):
    return [row[:place] + [number] + row[place + 1:] for row, number in zip(rows, column)]
