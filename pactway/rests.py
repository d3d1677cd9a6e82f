"""Rests, many of them gone at once."""

from pactway.courses import turns_ahead
from pactway.errors import TooMany
from pactway.words import REST

MOST_BREAKING = 60


def slack(course, stand):
    return min([rests_borne(course, stand, duty) for duty in course.open_duties(stand)], default=None)


# How many rests the open duty bears until one breaks it.
def rests_borne(course, stand, duty):
    return turns_ahead(course, duty[1], course.turn_of(stand)) + (duty[3] - 1) * len(course.parties)


def rested(course, stand, many):
    breaks = []
    now = stand
    turn = 0
    for breaking in range(MOST_BREAKING + 1):
        free = rests_free(course, now, many - turn)
        now = course.waited(now, free)
        turn += free
        if turn == many:
            return (now, breaks)
        step = course.after(now, REST)
        now = step[0]
        breaks.extend([(turn, who, label) for who, label in step[1]])
        turn += 1
    raise TooMany()


def rests_free(course, stand, many):
    free = slack(course, stand)
    return many if free is None else min(free, many)
