"""Courses: what comes of each act at each stand, of no agreement at all and of one agreement."""

from pactway.errors import NoDeed
from pactway.flats import ACT, DEPTH, LABEL, NUMBER, ROOMS, SORT, WHO, duties_among, flat, is_ban, room_behind
from pactway.words import REST


class Course:
    def __init__(self, parties, acts):
        self.parties = list(parties)
        self.acts = list(acts)

    def first(self, turn=0):
        return turn

    def mover(self, stand):
        return self.parties[self.turn_of(stand)]

    def turn_of(self, stand):
        return stand

    def choices(self):
        return self.acts + [REST]

    def after(self, stand, act):
        refuse_no_choice(self, act)
        return (turn_behind(self, stand, 1), [])

    def mark(self, stand):
        return "calm"

    def open_duties(self, stand):
        return []

    def bars(self, stand, who, act):
        return False

    def clean(self, stand):
        return [act for act in self.choices() if self.after(stand, act)[1] == []]

    def torn(self, stand):
        return any([self.bars(stand, who, act) for label, who, act, left in self.open_duties(stand)])

    def knows(self, thing):
        return is_turn(self, thing)

    def size(self):
        return len(self.parties)

    def waited(self, stand, many):
        return turn_behind(self, stand, many)


class One(Course):
    def __init__(self, pact):
        Course.__init__(self, pact.parties, pact.acts)
        clauses = flat(pact)
        self.begins = pact.rooms[0][1]
        self.marks = dict([(name, mark) for mark, name in pact.rooms])
        self.duties = duties_among(clauses)
        self.words = words_held(clauses, self.parties, self.marks)

    def first(self, turn=0):
        shut = [0 for duty in self.duties]
        return (self.begins, turn, left_in(self, shut, None, self.begins))

    def turn_of(self, stand):
        return stand[1]

    def after(self, stand, act):
        refuse_no_choice(self, act)
        room = stand[0]
        turn = turn_behind(self, stand[1], 1)
        if self.marks[room] == "end":
            return ((room, turn, stand[2]), [])
        who = self.parties[stand[1]]
        word = self.words.get((room, who, act))
        barred = is_ban(word)
        broken = [word] if barred else []
        # A barred act keeps no duty, as if its mover had rested.
        deed = REST if barred else act
        left = []
        for duty, turns in zip(self.duties, stand[2]):
            left.append(turns_behind(duty, turns, who, deed))
            if is_broken(duty, turns, who, deed):
                broken.append(duty)
        now = room_behind(room, word, broken)
        return ((now, turn, left_in(self, left, room, now)), [(who, clause[LABEL]) for clause in broken])

    def mark(self, stand):
        return self.marks[stand[0]]

    def open_duties(self, stand):
        told = []
        for duty, left in zip(self.duties, stand[2]):
            if left > 0:
                told.append((duty[LABEL], duty[WHO], duty[ACT], left))
        return told

    def bars(self, stand, who, act):
        return is_ban(self.words.get((stand[0], who, act)))

    def knows(self, thing):
        if not isinstance(thing, tuple) or len(thing) != 3:
            return False
        # Not every thing can be asked for in a dict.
        if not isinstance(thing[0], str) or thing[0] not in self.marks:
            return False
        return is_turn(self, thing[1]) and is_left(self, thing[2], thing[0])

    def size(self):
        size = len(self.marks) * len(self.parties)
        for duty in self.duties:
            size = size * (duty[NUMBER] + 1)
        return size

    def waited(self, stand, many):
        left = []
        for duty, turns in zip(self.duties, stand[2]):
            left.append(turns - own_turns(self, duty[WHO], stand[1], many) if turns > 0 else 0)
        return (stand[0], turn_behind(self, stand[1], many), tuple(left))

    def holds(self, room, who, act):
        word = self.words.get((room, who, act))
        return None if word is None else word[LABEL]


# Wherever a stand may be handed in or not. A stand may be 0, so it is asked by None alone.
def begun(course, stand):
    if stand is None:
        return course.first()
    return stand


def refuse_no_choice(course, act):
    if act not in course.choices():
        raise NoDeed(act)


def turn_behind(course, turn, many):
    return (turn + many) % len(course.parties)


# How many of the next turns are the party's own.
def own_turns(course, who, turn, many):
    return (many + len(course.parties) - 1 - turns_ahead(course, who, turn)) // len(course.parties)


# How many turns come ahead of the party's next own one.
def turns_ahead(course, who, turn):
    return (course.parties.index(who) - turn) % len(course.parties)


# Truths are ints to Python, but no whole numbers here.
def is_whole_number(thing):
    return isinstance(thing, int) and not isinstance(thing, bool)


def is_turn(course, thing):
    return is_whole_number(thing) and 0 <= thing < len(course.parties)


def is_left(course, thing, room):
    if not isinstance(thing, tuple) or len(thing) != len(course.duties):
        return False
    ended = course.marks[room] == "end"
    return all([is_turns_of(duty, left, ended) for duty, left in zip(course.duties, thing)])


def is_turns_of(duty, left, ended):
    return is_whole_number(left) and 0 <= left <= (0 if ended else duty[NUMBER])


# The word that holds, by (room, party, act): of greater depth behind lesser ones, of equal depth in the order of the
# text, so that each takes the place of those ahead of it. In an end none holds.
def words_held(clauses, parties, marks):
    words = {}
    for clause in sorted([clause for clause in clauses if clause[SORT] != "must"], key=depth_told):
        for room in [room for room in clause[ROOMS] if marks[room] != "end"]:
            for who in spoken_of(clause, parties):
                words[(room, who, clause[ACT])] = clause
    return words


def depth_told(clause):
    return clause[DEPTH]


def spoken_of(clause, parties):
    if clause[WHO] == "any":
        return parties
    return [clause[WHO]]


def turns_behind(duty, left, who, deed):
    if left == 0 or duty[WHO] != who:
        return left
    if duty[ACT] == deed:
        return 0
    return left - 1


def is_broken(duty, left, who, deed):
    return left == 1 and duty[WHO] == who and duty[ACT] != deed


def left_in(course, left, was, now):
    if course.marks[now] == "end":
        return tuple([0 for duty in course.duties])
    return tuple([opened(duty, turns, was, now) for duty, turns in zip(course.duties, left)])


def opened(duty, left, was, now):
    if left == 0 and now in duty[ROOMS] and was not in duty[ROOMS]:
        return duty[NUMBER]
    return left
