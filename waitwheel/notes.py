"""A wheel as a text, and a text as a wheel."""

from waitwheel.errors import BadNote, WheelError
from waitwheel.wheel import Wheel

FIGURES = "0123456789"
MOST_FIGURES = 30


def shown(wheel):
    size = wheel.size()
    lines = [f"deeds {size}\n"]
    for a, b, w in wheel.ties():
        lines.append(f"tie {a} {b} {w}\n")
    return "".join(lines)


def is_number(word):
    figures = word[1:] if word.startswith("-") else word
    if figures == "" or len(figures) > MOST_FIGURES:
        return False
    # Other signs than these ten count as digits in Python too, so each is asked for by itself.
    if not all([sign in FIGURES for sign in figures]):
        return False
    return word == "0" or figures[0] != "0"


def number(word):
    if not is_number(word):
        raise BadNote("a number is written otherwise, or has more than thirty figures")
    return int(word)


def numbers(line, word, many):
    words = line.split(" ")
    if words[0] != word or len(words) != many + 1:
        raise BadNote("a line has other words than its place asks for")
    return [number(one) for one in words[1:]]


def lines_of(text):
    lines = text.split("\n")
    if lines.pop() != "":
        raise BadNote("the last line lacks its line end")
    if lines == []:
        raise BadNote("there is no line of the deeds")
    return lines


def read(text):
    lines = lines_of(text)
    size = numbers(lines[0], "deeds", 1)[0]
    ties = [tuple(numbers(line, "tie", 3)) for line in lines[1:]]
    try:
        return Wheel(size, ties)
    except WheelError as fault:
        raise BadNote("these deeds and ties make no wheel") from fault
