"""Names bound to what they mean, and the clauses told flat: with what their names mean and where they are in force."""

from pactway.errors import CalmRoom, NoName
from pactway.parts import Let, Part
from pactway.rows import MARKS

# The places of what flat tells of a clause.
LABEL = 0
SORT = 1
WHO = 2
ACT = 3
NUMBER = 4
ROOM = 5
ROOMS = 6
DEPTH = 7


class Scope:
    # A room's kind is its mark, so that a calm one is known behind whatever name.
    def __init__(self, pact):
        self.pact = pact
        self.kinds = {}
        self.meanings = {}
        for name in pact.parties:
            self.know(name, "party", name)
        for name in pact.acts:
            self.know(name, "act", name)
        for mark, name in pact.rooms:
            self.know(name, mark, name)

    def know(self, name, kind, meaning):
        self.kinds[name] = kind
        self.meanings[name] = meaning

    def bind(self, name, value):
        if value not in self.kinds:
            raise NoName(value)
        self.know(name, self.kinds[value], self.meanings[value])

    def copied(self):
        scope = Scope(self.pact)
        scope.kinds = dict(self.kinds)
        scope.meanings = dict(self.meanings)
        return scope

    def party(self, word):
        if word == "any":
            return "any"
        return self.meant(word, ("party",))

    def deed(self, word):
        return self.meant(word, ("act",))

    def room_for(self, word):
        return self.meant(word, MARKS)

    def falls_to(self, word):
        room = self.room_for(word)
        if self.kinds[word] == "calm":
            raise CalmRoom(word)
        return room

    def meant(self, word, kinds):
        if self.kinds.get(word) not in kinds:
            raise NoName(word)
        return self.meanings[word]


def flat(pact):
    return flat_rows(pact.whole.rows, Scope(pact), [name for mark, name in pact.rooms], 0)


# The scope is changed by the rows' lets.
def flat_rows(rows, scope, rooms, depth):
    told = []
    for row in rows:
        if isinstance(row, Let):
            scope.bind(row.name, row.value)
        elif isinstance(row, Part):
            covered = covered_by(row, scope, rooms)
            told.extend(flat_rows(row.rows, scope.copied(), covered, depth + 1))
        else:
            told.append(flat_clause(row, scope, rooms, depth))
    return told


def covered_by(part, scope, rooms):
    if part.rooms == []:
        return rooms
    named = [scope.room_for(word) for word in part.rooms]
    return [room for room in rooms if room in named]


# Each tuple has a list of its own: what is done to one must not show in another.
def flat_clause(clause, scope, rooms, depth):
    who = scope.party(clause.who)
    act = scope.deed(clause.act)
    room = room_led_to(clause, scope)
    return (clause.label, clause.sort_word(), who, act, clause.number(), room, list(rooms), depth)


def room_led_to(clause, scope):
    room = clause.leads()
    if room is None:
        return ""
    if clause.sort_word() == "power":
        return scope.room_for(room)
    return scope.falls_to(room)


def duties_among(clauses):
    return [clause for clause in clauses if clause[SORT] == "must"]


# None stands for no word: the act is free.
def is_ban(word):
    return word is not None and word[SORT] == "ban"


def room_behind(room, word, broken):
    if len(broken) > 0:
        return broken[0][ROOM]
    if word is not None and word[SORT] == "power":
        return word[ROOM]
    return room
