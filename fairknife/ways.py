"""Ways to deal the cake among takers, each with a taste."""

from fairknife.errors import BadTakers
from fairknife.fractions import below, made, minus, plus, ranked, times
from fairknife.lines import parted, reached
from fairknife.pieces import LEFT_END, RIGHT_END, joined, whole, without
from fairknife.tastes import check_tastes

CAKE_SPAN = ((0, 1), (1, 1))
HALF = (1, 2)


def check_takers(tastes, fewest, most):
    check_tastes(tastes)
    if len(tastes) < fewest or len(tastes) > most:
        raise BadTakers("the way is for another count of takers")


def mark_within(taste, span, part):
    return taste.mark(span[0], times(taste.worth([span]), part))


def least_mark_spans(tastes):
    share = made(1, len(tastes))
    spans = {}
    waiting = list(range(len(tastes)))
    start = LEFT_END
    while len(waiting) > 1:
        marks = [tastes[taker].mark(start, share) for taker in waiting]
        place = ranked(marks)[0]
        spans[waiting.pop(place)] = (start, marks[place])
        start = marks[place]
    spans[waiting[0]] = (start, RIGHT_END)
    return spans


def give_by_halves(tastes, takers, span, spans):
    if len(takers) == 1:
        spans[takers[0]] = span
        return
    half = len(takers) // 2
    marks = [mark_within(tastes[taker], span, made(half, len(takers))) for taker in takers]
    order = ranked(marks)
    point = marks[order[half - 1]]
    # The takers stay in the order of their numbers, by which like marks are told apart.
    ahead = [takers[place] for place in sorted(order[:half])]
    behind = [takers[place] for place in sorted(order[half:])]
    give_by_halves(tastes, ahead, (span[0], point), spans)
    give_by_halves(tastes, behind, (point, span[1]), spans)


def in_thirds(taste, span):
    first = mark_within(taste, span, (1, 3))
    second = mark_within(taste, span, (2, 3))
    return [(span[0], first), (first, second), (second, span[1])]


def dearest(taste, spans):
    # The places of the spans, from the one that is worth most to the taste on.
    order = ranked([taste.worth([span]) for span in spans])
    return list(reversed(order))


def take_dearest(taste, spans):
    return spans.pop(dearest(taste, spans)[0])


def trimmed(taste, spans):
    # Makes the dearest span as dear as the one behind it, from its right end on: the place, the span
    # that is left of it, and the rest, None if there is none.
    order = dearest(taste, spans)
    span = spans[order[0]]
    point = taste.mark(span[0], taste.worth([spans[order[1]]]))
    rest = None if point == span[1] else (point, span[1])
    return (order[0], (span[0], point), rest)


def deal_rest(tastes, pieces, rest, holder):
    # The one of the last two who has the trimmed span chooses first: the first taker wouldn't envy
    # it even with all the rest, and the other one, who cuts, finds the parts alike.
    cutter = 3 - holder
    parts = in_thirds(tastes[cutter], rest)
    for taker in [holder, 0, cutter]:
        pieces[taker] = joined(pieces[taker], [take_dearest(tastes[taker], parts)])


def deal_without_envy(tastes):
    # The way of Selfridge and Conway.
    spans = in_thirds(tastes[0], CAKE_SPAN)
    trimming = trimmed(tastes[1], spans)
    small = trimming[1]
    spans[trimming[0]] = small
    third = take_dearest(tastes[2], spans)
    if small in spans:
        # The first taker must not be left with the trimmed span.
        spans.remove(small)
        second = small
    else:
        second = take_dearest(tastes[1], spans)
    pieces = [[spans[0]], [second], [third]]
    if trimming[2] is not None:
        deal_rest(tastes, pieces, trimming[2], 1 if second == small else 2)
    return pieces


def half_line(first, second):
    # Corners (where a span begins that is worth a half to the first, what it is worth to the second).
    # Between them neither end of such a span passes an end of a step, so the ways are straight.
    middle = first.mark(LEFT_END, HALF)
    starts = []
    for corner in first.corners() + second.corners():
        if below(middle, corner[0]):
            starts.append(first.point_at(minus(first.worth_up_to(corner[0]), HALF)))
        else:
            starts.append(corner[0])
    rising = [starts[place] for place in ranked(starts)]
    return [(start, second.worth([(start, first.mark(start, HALF))])) for start in rising]


def next_end_line(line, taste):
    # From corners (a worth, where the spans so far end if each has it) to those with one span more.
    # Corners come in wherever a step's end is passed, so that the ways between them are straight.
    corners = taste.corners()
    starts = parted(line, [corner[0] for corner in corners])
    stops = [(corner[0], plus(taste.worth_up_to(corner[1]), corner[0])) for corner in starts]
    stops = parted(stops, [corner[1] for corner in corners])
    return [(corner[0], taste.point_at(corner[1])) for corner in stops if not below((1, 1), corner[1])]


def common_worth(tastes):
    line = [((0, 1), LEFT_END), ((1, 1), LEFT_END)]
    for taste in tastes:
        line = next_end_line(line, taste)
    # The line ends where the spans reach the cake's end.
    return line[-1][0]


class Way:
    def deal(self, tastes):
        raise BadTakers("a way as such deals for nobody")


class Choose(Way):
    def deal(self, tastes):
        check_takers(tastes, 2, 2)
        middle = tastes[0].mark(LEFT_END, HALF)
        left = [(LEFT_END, middle)]
        right = [(middle, RIGHT_END)]
        if below(tastes[1].worth(left), tastes[1].worth(right)):
            return [left, right]
        return [right, left]


class Last(Way):
    def deal(self, tastes):
        check_takers(tastes, 1, 8)
        spans = least_mark_spans(tastes)
        return [[spans[taker]] for taker in range(len(tastes))]


class Halves(Way):
    def deal(self, tastes):
        check_takers(tastes, 1, 8)
        spans = {}
        give_by_halves(tastes, list(range(len(tastes))), CAKE_SPAN, spans)
        return [[spans[taker]] for taker in range(len(tastes))]


class Three(Way):
    def deal(self, tastes):
        check_takers(tastes, 3, 3)
        return deal_without_envy(tastes)


class Even(Way):
    def deal(self, tastes):
        check_takers(tastes, 2, 2)
        start = reached(half_line(tastes[0], tastes[1]), HALF)
        piece = [(start, tastes[0].mark(start, HALF))]
        return [piece, without(whole(), piece)]


class Alike(Way):
    def deal(self, tastes):
        check_takers(tastes, 1, 6)
        share = common_worth(tastes)
        pieces = []
        start = LEFT_END
        for taste in tastes:
            stop = taste.mark(start, share)
            pieces.append([(start, stop)])
            start = stop
        return pieces
