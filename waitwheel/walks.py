"""Walks along the ties of a wheel, and their heaviest weights."""

from waitwheel.wheel import check_deed


def empty_rows(size):
    return [[None] * size for a in range(size)]


def no_tie_weights(size):
    rows = empty_rows(size)
    for a in range(size):
        rows[a][a] = 0
    return rows


def one_tie_weights(wheel):
    rows = empty_rows(wheel.size())
    for a, b, w in wheel.ties():
        rows[a][b] = w
    return rows


def joined_row(row, rows):
    best = [None] * len(rows)
    for middle, weight in enumerate(row):
        if weight is not None:
            for b, more in enumerate(rows[middle]):
                if more is not None and (best[b] is None or weight + more > best[b]):
                    best[b] = weight + more
    return best


def joined(first, second):
    return [joined_row(row, second) for row in first]


def joined_often(rows, ties, many):
    # Weights for twice as many ties come from one join, so many ties take few joins.
    power = ties
    left = many
    while left > 0:
        if left % 2 == 1:
            rows = joined(rows, power)
        left = left // 2
        if left > 0:
            power = joined(power, power)
    return rows


def heaviest(wheel, many):
    return joined_often(no_tie_weights(wheel.size()), one_tie_weights(wheel), many)


def rows_from(wheel, a, many):
    ties = one_tie_weights(wheel)
    rows = [no_tie_weights(wheel.size())[a]]
    for k in range(many):
        rows.append(joined_row(rows[k], ties))
    return rows


def deed_ahead(wheel, row, b, weight):
    # A heaviest walk less its last tie is itself a heaviest one, so its weight stands in the row.
    fitting = [a for a, w in wheel.waits(b) if row[a] is not None and row[a] + w == weight]
    return fitting[0]


def walk_of(wheel, a, b, many):
    check_deed(wheel.size(), a)
    check_deed(wheel.size(), b)
    rows = rows_from(wheel, a, many)
    if rows[-1][b] is None:
        return None
    backwards = [b]
    for k in range(many, 0, -1):
        here = backwards[-1]
        backwards.append(deed_ahead(wheel, rows[k - 1], here, rows[k][here]))
    return list(reversed(backwards))


def reached(steps, start):
    seen = [False] * len(steps)
    seen[start] = True
    waiting = [start]
    while len(waiting) > 0:
        deed = waiting.pop()
        for other in steps[deed]:
            if not seen[other]:
                seen[other] = True
                waiting.append(other)
    return seen


def one_piece(wheel):
    # If deed 0 leads to all and all lead to deed 0, each leads to each by way of it.
    onward = [[] for a in range(wheel.size())]
    back = [[] for b in range(wheel.size())]
    for a, b, w in wheel.ties():
        onward[a].append(b)
        back[b].append(a)
    return all(reached(onward, 0)) and all(reached(back, 0))
