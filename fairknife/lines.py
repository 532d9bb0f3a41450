"""Lines: lists of corners, pairs (across, up) of fractions that don't fall across, with straight ways between."""

from fairknife.fractions import below, minus, over, plus, times


def apart(one, other):
    return minus(other, one) if below(one, other) else minus(one, other)


def reaches(one, other, up):
    if below(one[1], up) and below(other[1], up):
        return False
    return not (below(up, one[1]) and below(up, other[1]))


def crossing(one, other, up):
    # A way that neither rises nor falls is at its height from its first corner on.
    if one[1] == up:
        return one[0]
    part = over(apart(one[1], up), apart(one[1], other[1]))
    return plus(one[0], times(minus(other[0], one[0]), part))


def reached(line, up):
    for k in range(1, len(line)):
        if reaches(line[k - 1], line[k], up):
            return crossing(line[k - 1], line[k], up)
    return None


def parted(line, ups):
    # The same line, nowhere falling, with a corner wherever it comes to one of the rising heights.
    corners = line[:1]
    for k in range(1, len(line)):
        for up in ups:
            if below(line[k - 1][1], up) and below(up, line[k][1]):
                corners.append((crossing(line[k - 1], line[k], up), up))
        corners.append(line[k])
    return corners
