"""Rows of acts gone through, and the first breach in them."""

from pactway.courses import begun
from pactway.errors import Breach


def gone(course, acts, stand=None):
    told = []
    now = begun(course, stand)
    for act in acts:
        step = course.after(now, act)
        now = step[0]
        told.append(step)
    return told


def strict(course, acts, stand=None):
    now = begun(course, stand)
    for turn, act in enumerate(acts):
        step = course.after(now, act)
        if len(step[1]) > 0:
            broken = step[1][0]
            raise Breach(broken[0], broken[1], turn)
        now = step[0]
    return now


def first_breach(course, acts, stand=None):
    try:
        strict(course, acts, stand)
    except Breach as breach:
        return (breach.who, breach.what, breach.turn)
    return None
