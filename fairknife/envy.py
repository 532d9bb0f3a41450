"""Envy: who would rather have another one's piece, and by how much."""

from fairknife.errors import BadTakers
from fairknife.fractions import below, minus
from fairknife.tastes import check_tastes


def envy(pieces, tastes):
    check_tastes(tastes)
    if not isinstance(pieces, list) or len(pieces) != len(tastes):
        raise BadTakers("there is a list of pieces, one for each taste")
    found = []
    for taker, taste in enumerate(tastes):
        worths = [taste.worth(piece) for piece in pieces]
        for other, worth in enumerate(worths):
            if below(worths[taker], worth):
                found.append((taker, other, minus(worth, worths[taker])))
    return found
