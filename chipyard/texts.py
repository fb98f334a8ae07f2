"""Grounds and loads as texts, and read back out of them."""

from chipyard.errors import NoLoad, NoText
from chipyard.grounds import checked, is_ground, is_number

FIGURES = "0123456789"
MOST_FIGURES = 30


def shown(ground):
    checked(ground)
    return " ".join([str(ground[0])] + [shown_bundle(a, b, number) for a, b, number in ground[1]])


def shown_load(load):
    if not isinstance(load, tuple) or load == () or not all([is_number(chips) for chips in load]):
        raise NoLoad("this is no load for any ground")
    return " ".join([str(chips) for chips in load])


def read(text):
    words = words_of(text)
    ground = (number_in(words[0]), tuple([bundle_in(word) for word in words[1:]]))
    # One line written as x1 would be taken too, but that is not how it is written.
    if not is_ground(ground) or shown(ground) != text:
        raise NoText("this text is no ground")
    return ground


def read_load(text):
    return tuple([number_in(word) for word in words_of(text)])


def shown_bundle(a, b, number):
    return f"{a}-{b}" if number == 1 else f"{a}-{b}x{number}"


def words_of(text):
    if not isinstance(text, str):
        raise NoText("this is no text")
    return text.split(" ")


def bundle_in(word):
    sides = word.partition("x")
    yards = sides[0].partition("-")
    number = number_in(sides[2]) if sides[1] else 1
    return (number_in(yards[0]), number_in(yards[2]), number)


def number_in(word):
    figures = word[1:] if word.startswith("-") else word
    if not 1 <= len(figures) <= MOST_FIGURES or not all([figure in FIGURES for figure in figures]):
        raise NoText("this is no number")
    if figures[0] == "0" and word != "0":
        raise NoText("a nought stands ahead, or a sign before nought")
    return int(word)
