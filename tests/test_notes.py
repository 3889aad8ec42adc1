import random
import re
import unittest

from tests.making import THIRTY, random_wheels, ring_ties
from waitwheel.errors import BadNote, WheelError
from waitwheel.notes import read, shown
from waitwheel.wheel import Wheel

NUMBER = "(?:0|-?[1-9][0-9]{0,29})"
NOTE = re.compile(rf"deeds ({NUMBER})\n((?:tie {NUMBER} {NUMBER} {NUMBER}\n)*)")
SIGNS = "\t\n" + "".join(chr(code) for code in range(32, 127) if chr(code) != "%")


def read_by_pattern(text):
    """Size and sorted ties of a text that is to be read, None for any other."""
    match = NOTE.fullmatch(text)
    if match is None:
        return None
    ties = [tuple(int(word) for word in line.split()[1:]) for line in match[2].splitlines()]
    try:
        wheel = Wheel(int(match[1]), ties)
    except WheelError:
        return None
    return wheel.size(), wheel.ties()


class NotesCase(unittest.TestCase):
    def refused(self, text):
        with self.assertRaises(WheelError, msg=repr(text)) as caught:
            read(text)
        self.assertIs(type(caught.exception), BadNote, repr(text))

    def assert_read(self, text, size, ties):
        wheel = read(text)
        self.assertIs(type(wheel), Wheel)
        self.assertEqual((wheel.size(), wheel.ties()), (size, ties), repr(text))


class ShownTest(NotesCase):
    def test_sign_by_sign(self):
        self.assertEqual(shown(Wheel(1, [(0, 0, 0)])), "deeds 1\ntie 0 0 0\n")
        wheel = Wheel(3, [(2, 0, 1), (0, 1, 5), (1, 2, -40), (1, 0, -2)])
        self.assertEqual(shown(wheel), "deeds 3\ntie 0 1 5\ntie 1 0 -2\ntie 1 2 -40\ntie 2 0 1\n")

    def test_sorted_by_number_and_not_by_sign(self):
        ties = [(10, 9, 1), (9, 10, 2), (2, 10, 3), (2, 9, 4)] + [(0, b, 0) for b in range(11)]
        wanted = "".join(f"tie 0 {b} 0\n" for b in range(11))
        wanted += "tie 2 9 4\ntie 2 10 3\ntie 9 10 2\ntie 10 9 1\n"
        self.assertEqual(shown(Wheel(11, ties)), "deeds 11\n" + wanted)

    def test_great_numbers(self):
        for w in (THIRTY, -THIRTY, 10 ** 29, -10 ** 29):
            self.assertEqual(shown(Wheel(1, [(0, 0, w)])), "deeds 1\ntie 0 0 " + str(w) + "\n")

    def test_forty_deeds(self):
        text = shown(Wheel(40, ring_ties(40, 7)))
        lines = text.split("\n")
        self.assertEqual((lines[0], lines[1], lines[40], lines[41:]), ("deeds 40", "tie 0 1 7", "tie 39 0 7", [""]))


class ReadTest(NotesCase):
    def test_by_hand(self):
        self.assert_read("deeds 1\ntie 0 0 0\n", 1, [(0, 0, 0)])
        self.assert_read("deeds 2\ntie 1 0 -7\ntie 0 1 10\n", 2, [(0, 1, 10), (1, 0, -7)])
        self.assert_read("deeds 2\ntie 0 1 10\ntie 1 0 -7\n", 2, [(0, 1, 10), (1, 0, -7)])

    def test_what_is_shown_is_read(self):
        for most in (9, THIRTY):
            for wheel in random_wheels(141, 60, 1, 40, most):
                self.assert_read(shown(wheel), wheel.size(), wheel.ties())
                self.assertEqual(shown(read(shown(wheel))), shown(wheel))

    def test_ties_in_any_order(self):
        rng = random.Random(142)
        for wheel in random_wheels(142, 40, 1, 12, THIRTY):
            lines = shown(wheel).splitlines(True)
            for _ in range(3):
                rest = lines[1:]
                rng.shuffle(rest)
                self.assert_read(lines[0] + "".join(rest), wheel.size(), wheel.ties())

    def test_the_greatest_note(self):
        wheel = Wheel(40, [(a, b, -THIRTY) for a in range(40) for b in range(40)])
        self.assert_read(shown(wheel), 40, wheel.ties())

    def test_thirty_figures_are_read_and_thirty_one_are_not(self):
        for figures in ("9" * 30, "1" + "0" * 29, "123456789012345678901234567890"):
            for ahead in ("", "-"):
                self.assert_read(f"deeds 1\ntie 0 0 {ahead}{figures}\n", 1, [(0, 0, int(ahead + figures))])
                self.refused(f"deeds 1\ntie 0 0 {ahead}{figures}0\n")
                self.refused(f"deeds 1\ntie 0 0 {ahead}1{figures}\n")
        self.refused("deeds 1\ntie 0 0 " + "7" * 90000 + "\n")
        self.refused("deeds " + "7" * 90000 + "\n")

    def test_sizes(self):
        for size in (1, 2, 39, 40):
            text = f"deeds {size}\n" + "".join(f"tie 0 {b} 1\n" for b in range(size))
            self.assert_read(text, size, [(0, b, 1) for b in range(size)])
        for size in (0, 41, -1, 100, 10 ** 29):
            self.refused(f"deeds {size}\n")
            self.refused(f"deeds {size}\ntie 0 0 1\n")
        self.refused("deeds 41\n" + "".join(f"tie 0 {b} 1\n" for b in range(41)))


class RefusedTest(NotesCase):
    def test_no_text(self):
        self.refused("")

    def test_line_ends(self):
        for text in ("\n", "\n\n", "deeds 1", "deeds 1\ntie 0 0 1", "deeds 1\n\ntie 0 0 1\n", "deeds 1\ntie 0 0 1\n\n",
                     "\ndeeds 1\ntie 0 0 1\n", "deeds 1 tie 0 0 1\n", "deeds 1\ntie 0 0\n1\n", "deeds\n1\ntie 0 0 1\n",
                     "deeds 2\ntie 0 0 1\n\ntie 0 1 1\n", "deeds 1\ntie 0 0 1\n ", "deeds 1\ntie 0 0 1\n \n"):
            self.refused(text)

    def test_other_signs_that_part_lines_or_words(self):
        good = "deeds 1\ntie 0 0 1\n"
        for sign in "\r\x0b\x0c\x1c\x85\u2028\u2029":
            self.refused(good.replace("\n", sign))
            self.refused(good.replace("\n", sign + "\n"))
        for sign in "\t\xa0\u2003_,":
            self.refused(good.replace(" ", sign))

    def test_blanks(self):
        for text in (" deeds 1\ntie 0 0 1\n", "deeds 1 \ntie 0 0 1\n", "deeds  1\ntie 0 0 1\n",
                     "deeds 1\n tie 0 0 1\n", "deeds 1\ntie 0 0 1 \n", "deeds 1\ntie  0 0 1\n",
                     "deeds 1\ntie 0  0 1\n", "deeds 1\ntie 0 0  1\n", "deeds 1\ntie  0 1\n", "deeds 1\ntie 0 0 \n",
                     "deeds \ntie 0 0 1\n", "deeds 1\n \n"):
            self.refused(text)

    def test_tabs(self):
        for text in ("deeds\t1\ntie 0 0 1\n", "deeds 1\ntie 0 0\t1\n", "deeds 1\ntie\t0 0 1\n",
                     "deeds 1\t\ntie 0 0 1\n", "\tdeeds 1\ntie 0 0 1\n", "deeds 1\ntie 0 0 1\t\n",
                     "deeds 1\ntie 0 0 1\n\t"):
            self.refused(text)

    def test_words(self):
        for word in ("Deeds", "DEEDS", "deed", "deedss", "tie", "", "0"):
            self.refused(f"{word} 1\ntie 0 0 1\n")
        for word in ("Tie", "TIE", "ti", "ties", "deeds", "", "0"):
            self.refused(f"deeds 1\n{word} 0 0 1\n")

    def test_numbers_written_otherwise(self):
        for word in ("00", "01", "+1", "+0", "-0", "-00", "-01", "--1", "-", "+", "1-", "1.0", "1e3", "0x1", "1_0", "x",
                     "", "1,000", "-+1", "0" * 30, "\u0661", "\xb2", "\uff11", "None", "1\t", "'1'"):
            self.refused(f"deeds 1\ntie 0 0 {word}\n")
        for word in ("01", "+1", "1.0", "0x1", "-1", "x", "", "1_", "\u0661"):
            self.refused(f"deeds {word}\ntie 0 0 1\n")
        for word in ("00", "+0", "-0", "0.0", "x", "", "-", "\u0660"):
            self.refused(f"deeds 1\ntie {word} 0 1\n")
            self.refused(f"deeds 1\ntie 0 {word} 1\n")

    def test_the_line_of_the_deeds(self):
        for text in ("tie 0 0 1\n", "tie 0 0 1\ndeeds 1\n", "deeds 1\ndeeds 1\ntie 0 0 1\n",
                     "deeds 1\ntie 0 0 1\ndeeds 1\n", "deeds 1 1\ntie 0 0 1\n", "deeds\ntie 0 0 1\n"):
            self.refused(text)

    def test_too_few_and_too_many_words(self):
        for line in ("tie", "tie 0", "tie 0 0", "tie 0 0 1 1", "tie 0 0 1 tie 0 0 1", "0 0 1"):
            self.refused(f"deeds 1\n{line}\n")
            self.refused(f"deeds 1\ntie 0 0 1\n{line}\n")

    def test_what_a_wheel_refuses(self):
        self.refused("deeds 2\ntie 0 1 1\ntie 1 0 1\ntie 0 1 1\n")
        self.refused("deeds 2\ntie 0 1 1\ntie 1 0 1\ntie 0 1 -5\n")
        for deed in ("2", "3", "-1", "40", "-2", "9" * 30):
            self.refused(f"deeds 2\ntie 0 1 1\ntie 1 0 1\ntie {deed} 0 1\n")
            self.refused(f"deeds 2\ntie 0 1 1\ntie 1 0 1\ntie 0 {deed} 1\n")
        self.refused("deeds 1\n")
        self.refused("deeds 2\ntie 0 0 1\n")
        self.refused("deeds 2\ntie 0 1 1\ntie 1 1 1\n")

    def test_what_is_refused_is_so_under_wheel_error(self):
        with self.assertRaises(ValueError):
            read("")

    def test_a_long_text_of_one_tie_again_and_again(self):
        self.refused("deeds 1\n" + "tie 0 0 1\n" * 9999)
        self.refused(" " * 100000)
        self.refused("\n" * 100000)


class AnyTextTest(NotesCase):
    def assert_as_by_pattern(self, text):
        wanted = read_by_pattern(text)
        if wanted is None:
            self.refused(text)
        else:
            self.assert_read(text, wanted[0], wanted[1])
        return wanted is not None

    def test_notes_with_a_few_signs_changed(self):
        rng = random.Random(151)
        found = {True: 0, False: 0}
        for wheel in random_wheels(151, 60, 1, 4, 20):
            for _ in range(60):
                signs = list(shown(wheel))
                for _ in range(rng.randint(1, 2)):
                    at = rng.randrange(len(signs))
                    sign = rng.choice(rng.choice([SIGNS, "0123456789", "-+ \n\t"]))
                    signs[at:at + rng.randint(0, 1)] = rng.choice([[], [sign]])
                found[self.assert_as_by_pattern("".join(signs))] += 1
        self.assertGreater(min(found.values()), 100)

    def test_texts_made_of_pieces(self):
        rng = random.Random(152)
        pieces = ["deeds", "tie", "0", "1", "2", "-1", "-0", "00", " ", " ", "\n", "\t", "+", "9" * 30, "9" * 31]
        for _ in range(3000):
            start = rng.choice(["", "deeds 1\n", "deeds 2\ntie 0 0 1\n", "deeds 1\ntie 0 0 "])
            self.assert_as_by_pattern(start + "".join(rng.choice(pieces) for _ in range(rng.randint(0, 8))))


if __name__ == "__main__":
    unittest.main()
