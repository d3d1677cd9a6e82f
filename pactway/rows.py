"""What one row of text writes: a clause, a let, the first row of a part, a room, names."""

from pactway.clauses import Ban, Duty, Leave, Power
from pactway.parts import Let, Part
from pactway.words import is_name, number_of

MARKS = ("calm", "sore", "end")
MOST_ROOMS = 12


def names_of(row, word, most):
    words = row.split(" ")
    if words[0] != word or not are_names(words[1:], most):
        return []
    return words[1:]


def are_names(words, most):
    return 1 <= len(words) <= most and all([is_name(word) for word in words])


def room_of(row):
    words = row.split(" ")
    if len(words) != 2 or words[0] not in MARKS or not is_name(words[1]):
        return None
    return (words[0], words[1])


def let_of(row):
    words = row.split(" ")
    if not fits_form(words, ["let", "NAME", "be", "NAME"]):
        return None
    return Let(words[1], words[3])


def part_of(row):
    words = row.split(" ")
    if not fits_form(words[:2], ["part", "NAME"]):
        return None
    if len(words) == 2:
        return Part(words[1], [], [])
    if words[2] != "in" or not are_names(words[3:], MOST_ROOMS):
        return None
    return Part(words[1], words[3:], [])


def clause_of(row):
    words = row.split(" ")
    if fits_form(words, ["NAME", "NAME", "must", "NAME", "by", "NUMBER", "else", "NAME"]):
        return Duty(words[0], words[1], words[3], number_of(words[5]), words[7])
    if fits_form(words, ["NAME", "WHO", "may", "NAME"]):
        return Leave(words[0], words[1], words[3])
    if fits_form(words, ["NAME", "WHO", "may", "not", "NAME", "else", "NAME"]):
        return Ban(words[0], words[1], words[4], words[6])
    if fits_form(words, ["NAME", "WHO", "by", "NAME", "to", "NAME"]):
        return Power(words[0], words[1], words[3], words[5])
    return None


def fits_form(words, form):
    if len(words) != len(form):
        return False
    return all([fits_place(word, place) for word, place in zip(words, form)])


# Places that stand for other words are written in capitals: no row that fits a form has a word of capitals.
def fits_place(word, place):
    if place == "NAME":
        return is_name(word)
    if place == "WHO":
        return is_name(word) or word == "any"
    if place == "NUMBER":
        return number_of(word) > 0
    return word == place
