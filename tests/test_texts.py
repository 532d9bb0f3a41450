"""Point 16, and point 1 as far as it speaks of texts."""

import unittest

from fairknife.errors import BadPiece, BadText
from fairknife.tastes import Taste
from fairknife.texts import piece_of, piece_text, taste_of, taste_text
from tests import reckon
from tests.helpers import HUGE, Prickly, assert_piece, assert_refused, bad_pieces, no_lists, piece_of_cells

CAKE = [((0, 1), (1, 1))]
# A number of just 300 figures, and the least one of 301.
MOST = 10 ** 300 - 1
MORE = 10 ** 300


def no_texts():
    """Things that are no texts; some hold what would be read."""
    return [None, True, False, 0, 1, -1, HUGE, 0.5, 1j, b"", b"1@1", b"0-1", bytearray(b"0-1"), [], ["1@1"], ["0-1"],
            list("0-1"), (), ("0-1",), {}, {"0-1": "0-1"}, {"0-1"}, frozenset(), iter("0-1"), object(), Prickly(),
            str, Ellipsis, Taste([((1, 1), 1)]), CAKE, [((1, 1), 1)], ValueError("0-1")]


class Tastes(unittest.TestCase):
    def test_sign_by_sign(self):
        for steps, text in [
                ([((1, 4), 3), ((1, 1), 1)], "3@1/4 1@1"),
                ([((1, 1), 1)], "1@1"),
                ([((1, 1), 1000)], "1000@1"),
                ([((999, 1000), 10), ((1, 1), 20)], "10@999/1000 20@1"),
                ([((1, 3), 2), ((1, 2), 4), ((1, 1), 6)], "2@1/3 4@1/2 6@1")]:
            self.assertEqual(taste_text(Taste(list(steps))), text)
            answer = taste_of(text)
            self.assertIs(type(answer), Taste)
            self.assertEqual(answer.steps(), steps)

    def test_written_and_read_back(self):
        for steps in reckon.many_steps(80, 12):
            text = taste_text(Taste(list(steps)))
            self.assertIs(type(text), str)
            self.assertEqual(taste_of(text).steps(), steps)
            self.assertEqual(taste_text(taste_of(text)), text)
            self.assertEqual(text, " ".join(f"{weight}@{reckon.number(stop)}" for stop, weight in steps))

    def test_what_is_read_is_a_taste(self):
        taste = taste_of("3@1/4 1@1")
        self.assertEqual(taste.worth([((0, 1), (1, 4))]), (1, 2))
        self.assertEqual(taste.mark((0, 1), (2, 3)), (1, 2))
        self.assertEqual(taste.cut(CAKE, (1, 2)), ([((0, 1), (1, 4))], [((1, 4), (1, 1))]))

    def test_read_twice_is_apart(self):
        one = taste_of("3@1/4 1@1")
        one.steps().clear()
        self.assertEqual(taste_of("3@1/4 1@1").steps(), [((1, 4), 3), ((1, 1), 1)])
        self.assertEqual(taste_text(one), "3@1/4 1@1")

    def test_the_taste_is_not_changed(self):
        taste = Taste([((1, 4), 3), ((1, 1), 1)])
        self.assertEqual(taste_text(taste), taste_text(taste))
        self.assertEqual(taste.steps(), [((1, 4), 3), ((1, 1), 1)])


class Pieces(unittest.TestCase):
    def test_sign_by_sign(self):
        for piece, text in [
                ([], ""),
                (CAKE, "0-1"),
                ([((0, 1), (1, 2)), ((3, 4), (1, 1))], "0-1/2 3/4-1"),
                ([((1, 3), (2, 3))], "1/3-2/3"),
                ([((1, 1000), (10, 101)), ((1, 2), (70, 99)), ((5, 6), (1, 1))], "1/1000-10/101 1/2-70/99 5/6-1")]:
            self.assertEqual(piece_text(piece), text)
            self.assertEqual(piece_of(text), piece)
            assert_piece(self, piece_of(text))

    def test_written_and_read_back(self):
        for count in [1, 2, 5, 8, 9]:
            for cells in range(2 ** count):
                piece = piece_of_cells(cells, count)
                text = piece_text(piece)
                self.assertIs(type(text), str)
                self.assertEqual(piece_of(text), piece)
                told = [f"{reckon.number(start)}-{reckon.number(stop)}" for start, stop in piece]
                self.assertEqual(text, " ".join(told))

    def test_numbers_of_300_figures(self):
        for piece in [[((0, 1), (MOST - 1, MOST))], [((1, MOST), (1, 1))], [((1, MOST), (MOST - 1, MOST))],
                      [((0, 1), (1, 10 ** 299)), ((1, 3), (MOST - 1, MOST))]]:
            text = piece_text(piece)
            self.assertEqual(piece_of(text), piece)
        self.assertEqual(piece_text([((1, MOST), (1, 1))]), "1/" + "9" * 300 + "-1")
        self.assertEqual(piece_text([((1, 10 ** 299), (1, 1))]), "1/1" + "0" * 299 + "-1")

    def test_numbers_of_more_figures_are_written_and_not_read(self):
        for figures in [301, 640, 641, 4300, 4301, 6000]:
            number = 10 ** (figures - 1)
            text = "1/1" + "0" * (figures - 1) + "-1"
            self.assertEqual(piece_text([((1, number), (1, 1))]), text)
            assert_refused(self, BadText, piece_of, text)
            text = "0-" + "9" * figures + "/1" + "0" * figures
            self.assertEqual(piece_text([((0, 1), (10 ** figures - 1, 10 ** figures))]), text)
            assert_refused(self, BadText, piece_of, text)

    def test_every_length_of_number_is_written(self):
        for figures in range(1, 200):
            for number in [10 ** figures, 10 ** figures + 1, 10 ** figures - 1, 7 ** figures]:
                self.assertEqual(piece_text([((0, 1), (1, number))]), f"0-1/{number}")

    def test_nothing_is_changed(self):
        piece = [((0, 1), (1, 2)), ((3, 4), (1, 1))]
        text = piece_text(piece)
        self.assertEqual(piece, [((0, 1), (1, 2)), ((3, 4), (1, 1))])
        answer = piece_of(text)
        answer.append(None)
        answer.clear()
        self.assertEqual(piece_of(text), piece)
        answer = piece_of("")
        answer.append(None)
        self.assertEqual(piece_of(""), [])
        piece.clear()
        self.assertEqual(text, "0-1/2 3/4-1")
        self.assertEqual(piece_text(piece), "")


def bad_numbers():
    """What stands for no number, in the place of a 1."""
    return ["", " ", "01", "001", "+1", "-1", "1.", "1.0", "1_0", "_1", "1_", "1e0", "0x1", "0b1", "0o1", "1L",
            "a", "x1", "1 ", " 1", "\t1", "1\t", "\n1", "1\n", "1\r", "1\r\n", "1\n1", "1,", "'1'", "(1)", "~",
            "--1", "+-1", "\u0661", "\u00b9", "\uff11", "1\u00a0", "\u2003" + "1", "\ud800", "\x00", "1\x00",
            "0" * 300 + "1", "0" * 5000 + "1", "1" * 301, "1" * 4300, "1" * 4301, "1" * 5000, "9" * 20000,
            "1/1", "2/2", "0/0", "1/0", "1/", "/1", "/", "1//1", "1/1/1", "1@1", "1-1", "@", "-"]


def bad_tastes():
    texts = ["", " ", "  ", "1", "@", "1@", "@1", "1@1 ", " 1@1", "1@1\n", "\n1@1", "1@1\t", "1@1\r\n", "1 @1",
             "1@ 1", "1@1/2  1@1", "1@1/2\t1@1", "1@1/2\n1@1", "1@1/2,1@1", "1@1/21@1", "1@1/2 1@1 ", "1@1/2 ",
             "1@1/2 1", "1@1/2 @1", "1@1/2 1@", "1@1@1", "1@1/2@1", "1@1/2 1@1 1", "1@1/2 1@1 1@1", "1-1",
             "1/2@1", "1@1 1@1/2", "1@2/4 1@1", "1@2/2", "1@1/1", "1@0/1 1@1", "1@0 1@1", "1@0/2 1@1", "1@0",
             "1@1/0 1@1", "1@0/0 1@1", "1@2", "1@1/2", "1@1/2 1@1/2 1@1", "1@1/2 1@1/3 1@1", "1@3/2 1@1",
             "1@1/2 1@3/2", "1@1/1001 1@1", "1@1000/1001 1@1", "0@1", "1001@1", "-1@1", "1@-1", "1@-1/2 1@1",
             "1@+1", "+1@1", "00@1", "1@00", "1@1/02 1@1", "1@01/2 1@1", "1@1/2/2 1@1", "1@1/ 1@1", "1@/2 1@1",
             "1@1 /2 1@1", "1@1/ 2 1@1", "1@1/+2 1@1", "1@1/-2 1@1", "3@1/4 1@1.", "0-1", "taste",
             "Taste([((1, 1), 1)])", "[((1, 1), 1)]", "True@1", "1@True", "None", "1@1\\n", "1.0@1", "1@1.0",
             " ".join(f"1@{reckon.Fraction(k, 9)}" for k in range(1, 10)), "1@1 " * 5000, "@" * 5000,
             " " * 5000, "1" * 5000, "1@" + "1" * 5000]
    for number in bad_numbers():
        texts += [number + "@1", "1@" + number, "1@1/2 " + number + "@1", "1@1/2 1@" + number, number + "@1/2 1@1",
                  "1@" + number + "/2 1@1", "1@1/" + number + " 1@1"]
    return texts


def bad_piece_texts():
    texts = [" ", "  ", "\n", "\t", "0", "1", "-", "0-", "-1", "0--1", "0-1-", "-0-1", "0-1-1", "0-1/2-1",
             "0-1 ", " 0-1", "0-1\n", "\n0-1", "0-1\t", "0-1\r\n", "0 -1", "0- 1", "0 - 1", "0-1/2  3/4-1",
             "0-1/2\t3/4-1", "0-1/2\n3/4-1", "0-1/2,3/4-1", "0-1/23/4-1", "0-1/2 ", "0-1/2 3/4", "0-1/2 3/4-",
             "0-1/2 -1", "0-1/2 3/4-1 ", "0-1/1", "0/1-1", "0/2-1", "0-2/2", "0-2/4", "2/4-1", "00-1", "0-01",
             "0-1/02", "0-01/2", "+0-1", "0-+1", "-0-1", "0--1/2", "0-1/+2", "0-1/-2", "0-1/0", "0-0", "1-1",
             "1/2-1/2", "1/2-1/3", "1-0", "0-2", "0-3/2", "3/2-2", "1-2", "0-1/2 1/2-1", "0-1/2 1/3-1",
             "1/2-1 0-1/3", "0-1/3 0-1/3", "0-1 1/3-1/2", "0-1/2 3/4-5/4", "0-1/2 3/4-3/4", "0-1/2/2", "0-1/",
             "0-/2", "0-1 /2", "0-1/ 2", "1@1", "0@1", "piece", "[]", "[((0, 1), (1, 1))]", "None",
             "False-True", "0.0-1.0", "0-0.5", "0-1.", "0-1\\n", "0-1;", "0-1 0-1", "0_1", "0~1",
             "0-1 " * 5000, "-" * 5000, " " * 5000, "1" * 5000, "0-" + "1" * 5000, "0-1/" + "3" * 5000,
             "3" * 5000 + "-1", "0-1/" + str(MORE), "0-" + str(MORE) + "/" + str(MORE + 1),
             "1/" + str(MORE) + "-1", "0-1/3 1/2-" + str(MORE) + "/" + str(MORE + 1)]
    for number in bad_numbers():
        texts += ["0-" + number, number + "-1", "0-" + number + "/2", "0-1/" + number, number + "/2-1",
                  "1/" + number + "-1", "0-1/3 1/2-" + number, "0-1/3 " + number + "-1", "0-1/3 1/" + number + "-1"]
    return texts


class Refusals(unittest.TestCase):
    def test_no_taste_in_the_text(self):
        for place, text in enumerate(bad_tastes()):
            with self.subTest(place=place):
                assert_refused(self, BadText, taste_of, text)

    def test_no_piece_in_the_text(self):
        for place, text in enumerate(bad_piece_texts()):
            with self.subTest(place=place):
                assert_refused(self, BadText, piece_of, text)

    def test_every_sign_put_in_left_out_or_in_anothers_place(self):
        # What is then read is just what is written so.
        signs = [chr(code) for code in range(32, 127)] + ["\n", "\t", "\r"]
        for text, read, written in [("3@1/4 10@1", taste_of, taste_text), ("0-1/2 3/4-1", piece_of, piece_text)]:
            for place in range(len(text) + 1):
                others = [text[:place] + text[place + 1:]]
                others += [text[:place] + sign + text[place:] for sign in signs]
                others += [text[:place] + sign + text[place + 1:] for sign in signs]
                for other in others:
                    try:
                        answer = read(other)
                    except BadText:
                        continue
                    self.assertEqual(written(answer), other)

    def test_no_text(self):
        for place, thing in enumerate(no_texts()):
            with self.subTest(place=place):
                assert_refused(self, BadText, taste_of, thing)
                assert_refused(self, BadText, piece_of, thing)

    def test_no_piece_to_write(self):
        for place, thing in enumerate(bad_pieces() + no_lists()):
            with self.subTest(place=place):
                assert_refused(self, BadPiece, piece_text, thing)
