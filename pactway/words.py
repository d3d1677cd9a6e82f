"""Which words are names, and which write numbers."""

KEPT = (
    "acts", "any", "be", "by", "calm", "done", "else", "end", "in", "let",
    "may", "must", "not", "part", "parties", "rest", "sore", "to", "whole",
)
REST = "rest"
LETTERS = "abcdefghijklmnopqrstuvwxyz"
FIGURES = "0123456789"
MOST_LETTERS = 8
MOST_FIGURES = 20


def kept_words():
    return list(KEPT)


def is_name(word):
    return written_with(word, LETTERS, MOST_LETTERS) and word not in KEPT


def number_of(word):
    if not written_with(word, FIGURES, MOST_FIGURES) or word[0] == "0":
        return 0
    return int(word)


# Python's isalpha, islower and isdigit let signs of other scripts by, too.
def written_with(word, signs, most):
    if len(word) < 1 or len(word) > most:
        return False
    return all([sign in signs for sign in word])
