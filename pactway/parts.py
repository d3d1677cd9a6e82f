"""Lets, parts and agreements, and what they tell of themselves."""

from pactway.clauses import Clause, Row


class Let(Row):
    def __init__(self, name, value):
        self.name = name
        self.value = value

    def rows_told(self):
        return ["let " + self.name + " be " + self.value]


class Part(Row):
    def __init__(self, name, rooms, rows):
        self.name = name
        self.rooms = list(rooms)
        self.rows = list(rows)

    def rows_told(self):
        told = [self.first_row()]
        for row in self.rows:
            told.extend(row.rows_told())
        told.append("done")
        return told

    def first_row(self):
        words = ["part", self.name]
        if len(self.rooms) > 0:
            words.append("in")
        return " ".join(words + self.rooms)


class Pact:
    def __init__(self, parties, acts, rooms, whole):
        self.parties = list(parties)
        self.acts = list(acts)
        self.rooms = list(rooms)
        self.whole = whole


def clauses_of(part):
    found = []
    for row in part.rows:
        if isinstance(row, Clause):
            found.append(row)
        elif isinstance(row, Part):
            found.extend(clauses_of(row))
    return found


def parts_of(part):
    found = [part]
    for inner in parts_within(part):
        found.extend(parts_of(inner))
    return found


def depth_of(part):
    return max([depth_of(inner) + 1 for inner in parts_within(part)], default=0)


def parts_within(part):
    return [row for row in part.rows if isinstance(row, Part)]


def part_named(pact, name):
    for part in parts_of(pact.whole):
        if part.name == name:
            return part
    return None


def shown(pact):
    rows = [" ".join(["parties"] + pact.parties), " ".join(["acts"] + pact.acts)]
    for room in pact.rooms:
        rows.append(" ".join(room))
    # The whole is a part like others, but its first row and its done are not written.
    return "; ".join(rows + pact.whole.rows_told()[1:-1])
