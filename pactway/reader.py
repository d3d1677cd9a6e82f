"""The text of an agreement, read row by row."""

from pactway.errors import NoText
from pactway.parts import Pact, Part
from pactway.rows import MOST_ROOMS, clause_of, let_of, names_of, part_of, room_of

MOST_PARTIES = 4
MOST_ACTS = 6
MOST_ROWS = 90
MOST_OPEN = 6
FIRST_ROOM = 2


def read(text):
    rows = text.split("; ")
    parties = read_names(rows, 0, "parties", MOST_PARTIES, [])
    acts = read_names(rows, 1, "acts", MOST_ACTS, parties)
    rooms = read_rooms(rows, parties + acts)
    whole = read_whole(rows, FIRST_ROOM + len(rooms))
    return Pact(parties, acts, rooms, whole)


def read_names(rows, number, word, most, taken):
    if number == len(rows):
        raise NoText(number)
    names = names_of(rows[number], word, most)
    if names == [] or not told_once(taken + names):
        raise NoText(number)
    return names


def told_once(names):
    return len(set(names)) == len(names)


def read_rooms(rows, taken):
    rooms = []
    for row in rows[FIRST_ROOM:]:
        room = room_of(row)
        if room is None:
            break
        if len(rooms) == MOST_ROOMS or not told_once(taken + [name for mark, name in rooms + [room]]):
            raise NoText(FIRST_ROOM + len(rooms))
        rooms.append(room)
    if rooms == []:
        raise NoText(FIRST_ROOM)
    return rooms


# The rows of the header are far fewer than ninety, so the ninety-first one can only come here.
def read_whole(rows, start):
    body = Body()
    for number in range(start, len(rows)):
        if number == MOST_ROWS or not body.takes(rows[number]):
            raise NoText(number)
    if body.many_open() > 0:
        raise NoText(len(rows))
    return body.closed()


# The whole and the parts open within it, each with its own rows by now.
class Body:
    def __init__(self):
        self.heads = [Part("whole", [], [])]
        self.bodies = [[]]
        self.labels = {}

    def many_open(self):
        return len(self.heads) - 1

    # Tells whether the row can stand there; one that can is kept.
    def takes(self, row):
        if row == "done":
            return self.takes_done()
        head = part_of(row)
        if head is not None:
            return self.takes_head(head)
        clause = clause_of(row)
        if clause is not None:
            return self.takes_clause(clause)
        let = let_of(row)
        if let is None:
            return False
        self.put_in(let)
        return True

    def takes_done(self):
        if self.many_open() == 0:
            return False
        self.put_in(self.closed())
        return True

    def takes_head(self, head):
        if self.many_open() == MOST_OPEN or head.name in self.labels:
            return False
        self.labels[head.name] = True
        self.heads.append(head)
        self.bodies.append([])
        return True

    def takes_clause(self, clause):
        if clause.label in self.labels:
            return False
        self.labels[clause.label] = True
        self.put_in(clause)
        return True

    def put_in(self, row):
        self.bodies[-1].append(row)

    # The innermost part, which is open no more.
    def closed(self):
        head = self.heads.pop()
        return Part(head.name, head.rooms, self.bodies.pop())
