"""Texts: tastes and pieces written, and read again."""

from fairknife.errors import BadPiece, BadTaste, BadText
from fairknife.pieces import check_piece
from fairknife.tastes import Taste

FIGURES = "0123456789"
MOST_FIGURES = 300
CHUNK_FIGURES = 64


def number_text(number):
    # In chunks, since Python itself won't write a number of thousands of figures.
    chunk = 10 ** 64
    chunks = []
    while number >= chunk:
        chunks.append(str(number % chunk).zfill(CHUNK_FIGURES))
        number = number // chunk
    chunks.append(str(number))
    return "".join(reversed(chunks))


def fraction_text(fraction):
    if fraction[1] == 1:
        return number_text(fraction[0])
    return number_text(fraction[0]) + "/" + number_text(fraction[1])


def taste_text(taste):
    return " ".join([number_text(step[1]) + "@" + fraction_text(step[0]) for step in taste.steps()])


def piece_text(piece):
    check_piece(piece)
    return " ".join([fraction_text(span[0]) + "-" + fraction_text(span[1]) for span in piece])


def number_of(text):
    # The length is looked at first, since Python itself won't read a number of thousands of figures.
    if len(text) < 1 or len(text) > MOST_FIGURES:
        raise BadText("a number has 1 to 300 figures")
    if any([sign not in FIGURES for sign in text]):
        raise BadText("a number is written in figures")
    if text[0] == "0" and text != "0":
        raise BadText("a number has no noughts ahead")
    return int(text)


def fraction_of(text):
    # Whether it is in lowest terms is asked where the taste or the piece is.
    parts = text.split("/")
    if len(parts) == 1:
        return (number_of(text), 1)
    if len(parts) != 2 or parts[1] == "1":
        raise BadText("a fraction is a number, or two with / between, the second one not 1")
    return (number_of(parts[0]), number_of(parts[1]))


def two_parts(text, sign):
    parts = text.split(sign)
    if len(parts) != 2:
        raise BadText("a step has one @ in it, a span one -")
    return parts


def step_of(text):
    parts = two_parts(text, "@")
    return (fraction_of(parts[1]), number_of(parts[0]))


def span_of(text):
    parts = two_parts(text, "-")
    return (fraction_of(parts[0]), fraction_of(parts[1]))


def check_text(text):
    if not isinstance(text, str):
        raise BadText("what is read is a text")


def taste_of(text):
    check_text(text)
    steps = [step_of(part) for part in text.split(" ")]
    try:
        return Taste(steps)
    except BadTaste:
        raise BadText("the steps are no taste") from None


def piece_of(text):
    check_text(text)
    if text == "":
        return []
    piece = [span_of(part) for part in text.split(" ")]
    try:
        check_piece(piece)
    except BadPiece:
        raise BadText("the spans are no piece") from None
    return piece
