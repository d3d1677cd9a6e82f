"""What an agreement means, told by its rows alone, without any course."""

from pactway.errors import NoDeed
from pactway.flats import ACT, DEPTH, LABEL, NUMBER, ROOMS, SORT, WHO, duties_among, flat, is_ban, room_behind
from pactway.words import REST


def watcher(duty):
    # A list of its own: the duty's list may be changed behind this call.
    rooms = list(duty[ROOMS])

    def count(left, who, act, free):
        if left == 0 or who != duty[WHO]:
            return (left, False)
        if act == duty[ACT] and free:
            return (0, False)
        return (left - 1, left == 1)

    def opens(left, was, now):
        if left == 0 and now in rooms and was not in rooms:
            return duty[NUMBER]
        return left

    return (count, opens)


class Walk:
    def __init__(self, pact):
        self.clauses = flat(pact)
        self.marks = dict([(name, mark) for mark, name in pact.rooms])
        self.duties = duties_among(self.clauses)
        self.watchers = [watcher(duty) for duty in self.duties]
        self.left = [0 for duty in self.duties]
        self.room = None
        self.enter(pact.rooms[0][1])

    def enter(self, room):
        for place, watch in enumerate(self.watchers):
            opens = watch[1]
            self.left[place] = 0 if self.marks[room] == "end" else opens(self.left[place], self.room, room)
        self.room = room

    def go(self, who, act):
        if self.marks[self.room] == "end":
            return []
        word = word_for(self.clauses, self.room, who, act)
        barred = is_ban(word)
        broken = [word] if barred else []
        for place, watch in enumerate(self.watchers):
            count = watch[0]
            counted = count(self.left[place], who, act, not barred)
            self.left[place] = counted[0]
            if counted[1]:
                broken.append(self.duties[place])
        self.enter(room_behind(self.room, word, broken))
        return [(who, clause[LABEL]) for clause in broken]


def plain(pact, acts):
    walk = Walk(pact)
    told = []
    for number, act in enumerate(acts):
        if act not in pact.acts + [REST]:
            raise NoDeed(act)
        broken = walk.go(pact.parties[number % len(pact.parties)], act)
        told.append((walk.room, broken))
    return told


def word_for(clauses, room, who, act):
    found = None
    for clause in clauses:
        if speaks(clause, room, who, act) and (found is None or clause[DEPTH] >= found[DEPTH]):
            found = clause
    return found


def speaks(clause, room, who, act):
    if clause[SORT] == "must" or clause[ACT] != act:
        return False
    return clause[WHO] in (who, "any") and room in clause[ROOMS]
