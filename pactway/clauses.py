"""The clauses of an agreement: duties, leaves, bans and powers."""


class Row:
    def rows_told(self):
        return []


class Clause(Row):
    def __init__(self, label, who, act):
        self.label = label
        self.who = who
        self.act = act

    def rows_told(self):
        row = self.label + " " + self.who
        tail = self.tail()
        if tail == "":
            return [row]
        return [row + " " + tail]

    def tail(self):
        return ""

    def sort_word(self):
        return ""

    def lets(self):
        return None

    def leads(self):
        return None

    # 0 stands for none: the number of a duty is 1 or more.
    def number(self):
        return 0

    def speaks_of(self, who, act):
        return self.act == act and self.who in (who, "any")

    def renamed(self, names):
        return Clause(self.label, put(names, self.who), put(names, self.act))

    # Rows of text would not do here: the row of a plain clause leaves its act out.
    def same_as(self, other):
        if self.sort_word() != other.sort_word() or self.label != other.label:
            return False
        if self.who != other.who or self.act != other.act:
            return False
        return self.number() == other.number() and self.leads() == other.leads()


class Duty(Clause):
    def __init__(self, label, who, act, turns, room):
        Clause.__init__(self, label, who, act)
        self.turns = turns
        self.room = room

    def tail(self):
        return " ".join(["must", self.act, "by", str(self.turns), "else", self.room])

    def sort_word(self):
        return "must"

    def leads(self):
        return self.room

    def number(self):
        return self.turns

    def renamed(self, names):
        return Duty(self.label, put(names, self.who), put(names, self.act), self.turns, put(names, self.room))


class Leave(Clause):
    def tail(self):
        return "may " + self.act

    def sort_word(self):
        return "may"

    def lets(self):
        return True

    def renamed(self, names):
        return Leave(self.label, put(names, self.who), put(names, self.act))


class Ban(Clause):
    def __init__(self, label, who, act, room):
        Clause.__init__(self, label, who, act)
        self.room = room

    def tail(self):
        return " ".join(["may", "not", self.act, "else", self.room])

    def sort_word(self):
        return "ban"

    def lets(self):
        return False

    def leads(self):
        return self.room

    def renamed(self, names):
        return Ban(self.label, put(names, self.who), put(names, self.act), put(names, self.room))


class Power(Leave):
    def __init__(self, label, who, act, room):
        Leave.__init__(self, label, who, act)
        self.room = room

    def tail(self):
        return " ".join(["by", self.act, "to", self.room])

    def sort_word(self):
        return "power"

    def leads(self):
        return self.room

    def renamed(self, names):
        return Power(self.label, put(names, self.who), put(names, self.act), put(names, self.room))


def put(names, word):
    return names.get(word, word)
