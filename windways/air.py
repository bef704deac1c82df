"""Stage 2: the air for given widths."""

from math import gcd

from windways.mines import far_end, inner_places, ways_at


def levels_for(mine, widths):
    """Return the levels of the state with level 0 at the outlet and no common divisor above 1."""
    places, _, inlet, _ = mine
    inner = inner_places(mine)
    rows = []
    for x in inner:
        shares = leaving_shares(mine, widths, x)
        rows.append([shares[z] for z in inner] + [-shares[inlet]])
    common, solved = solve_rows(rows)
    levels = [0] * places
    levels[inlet] = common
    for x, level in zip(inner, solved):
        levels[x] = level
    return without_divisor(levels)


def leaving_shares(mine, widths, x):
    """Return a number for each place: their sum, each times the place's level, is the air that leaves x."""
    shares = [0] * mine[0]
    for w in ways_at(mine, x):
        end = far_end(mine, w, x)
        shares[x] = shares[x] + widths[w]
        shares[end] = shares[end] - widths[w]
    return shares


def solve_rows(rows):
    """Return (common, solved): unknown k of the equations is solved[k] / common.

    Each row holds the factors of the unknowns and then the right side. It is taken
    without exchanging rows, and each division leaves no remainder: in a joined mine
    every group of inner places has a way out of it, so that every pivot, which is the
    determinant of the first rows and columns, is above 0.
    """
    before = 1
    unknowns = len(rows)
    for k in range(unknowns):
        lead = rows[k]
        rows = [row if i == k else cleared_row(row, lead, k, before) for i, row in enumerate(rows)]
        before = lead[k]
    return before, [row[-1] for row in rows]


def cleared_row(row, lead, k, before):
    """Return the row with 0 in column k, scaled by the pivot in the leading row and by the pivot before."""
    return [(lead[k] * here - row[k] * there) // before for here, there in zip(row, lead)]


def without_divisor(levels):
    """Return levels as a tuple, divided by their greatest common divisor."""
    divisor = 0
    for level in levels:
        divisor = gcd(divisor, level)
    return tuple([level // divisor for level in levels])


def as_fraction(number, parts):
    """Return number / parts, with parts above 0, as a fraction in lowest terms."""
    divisor = gcd(number, parts)
    return (number // divisor, parts // divisor)


def pressures_of(mine, widths):
    """Return the tuple of the pressures, as fractions: 1 at the inlet, 0 at the outlet."""
    levels = levels_for(mine, widths)
    whole = levels[mine[2]]
    return tuple([as_fraction(level, whole) for level in levels])


def air_of(mine, widths):
    """Return the tuple of the air in each way at the pressures for these widths, as fractions."""
    levels = levels_for(mine, widths)
    whole = levels[mine[2]]
    air = [widths[w] * (levels[a] - levels[b]) for w, (a, b) in enumerate(mine[1])]
    return tuple([as_fraction(amount, whole) for amount in air])


def total_air(mine, widths):
    """Return the air that leaves the inlet at the pressures for these widths, as a fraction."""
    inlet = mine[2]
    levels = levels_for(mine, widths)
    return as_fraction(air_leaving(mine, widths, levels, inlet), levels[inlet])


def air_leaving(mine, widths, levels, x):
    """Return the air that leaves place x less the air that arrives there."""
    return sum([widths[w] * (levels[x] - levels[far_end(mine, w, x)]) for w in ways_at(mine, x)])


def is_state(mine, widths, levels):
    """Tell whether widths and levels are a state: the fan drives, and the air balances at inner places."""
    _, _, inlet, outlet = mine
    if levels[inlet] <= levels[outlet]:
        return False
    return all([air_leaving(mine, widths, levels, x) == 0 for x in inner_places(mine)])


def picture_of(mine, levels):
    """Return the tuple of the directions of the air in the ways: 1, -1, or 0 where it is still."""
    return tuple([sign_between(levels, a, b) for a, b in mine[1]])


def sign_between(levels, x, y):
    """Return the sign of the level of x minus the level of y."""
    if levels[x] == levels[y]:
        return 0
    return 1 if levels[x] > levels[y] else -1
