"""Texts of agreements for the tests: the document's own one, edges, and many that are put together by numbers."""

import random
import re

SALE = ("parties ann bob; acts pay send; calm sale; sore late; end over; c ann must pay by 3 else late; "
        "part cure in late; d ann must pay by 2 else over; e ann by pay to sale; done; "
        "f any may not send else late; part open in sale over; g bob may send; done")
HEADER = "parties ann bob; acts pay send; calm sale; sore late; end over"

KEPT = "acts any be by calm done else end in let may must not part parties rest sore to whole".split(" ")

NAME = "(?!(?:" + "|".join(KEPT) + ")(?![a-z]))[a-z]{1,8}(?![a-z])"
WHO = "(?:any|" + NAME + ")"
FORMS = {
    "parties": "parties( " + NAME + "){1,4}",
    "acts": "acts( " + NAME + "){1,6}",
    "room": "(calm|sore|end) " + NAME,
    "let": "let " + NAME + " be " + NAME,
    "part": "part " + NAME + "( in( " + NAME + "){1,12})?",
    "done": "done",
    "must": NAME + " " + NAME + " must " + NAME + " by [1-9][0-9]{0,19} else " + NAME,
    "may": NAME + " " + WHO + " may " + NAME,
    "ban": NAME + " " + WHO + " may not " + NAME + " else " + NAME,
    "power": NAME + " " + WHO + " by " + NAME + " to " + NAME,
}
CLAUSES = ["must", "may", "ban", "power"]


def form_of(row):
    for form, pattern in FORMS.items():
        if re.fullmatch(pattern, row):
            return form
    return None


def word(number):
    """The number written with four letters: a name, and never a kept word."""
    letters = "abcdefghijklmnopqrstuvwxyz"
    return "q" + letters[number // 676 % 26] + letters[number // 26 % 26] + letters[number % 26]


def made_text(seed):
    """A text that can be read. What its names mean is mostly, not always, a thing of the due kind."""
    chance = random.Random(seed)
    parties = chance.sample(["ann", "bob", "eve", "dan"], chance.randint(1, 4))
    acts = chance.sample(["pay", "send", "sign", "keep", "ask", "wait"], chance.randint(1, 6))
    rooms = chance.sample(["sale", "late", "over", "cure", "shop", "loan", "halt"], chance.randint(1, 7))
    rows = [" ".join(["parties"] + parties), " ".join(["acts"] + acts)]
    rows += [chance.choice(["calm", "sore", "sore", "end", "end"]) + " " + room for room in rooms]
    return "; ".join(rows + made_rows(chance, parties, acts, rooms, chance.randint(0, 30)))


def made_rows(chance, parties, acts, rooms, many):
    everything = parties + acts + rooms + ["x", "y", "z", "nobody"]
    aliases = {"x": parties, "y": acts, "z": rooms}

    def near(names):
        if chance.random() < 0.02:
            return chance.choice(everything)
        return chance.choice(names + [alias for alias in aliases if aliases[alias] == names])

    def let():
        alias = chance.choice(["x", "y", "z"])
        name = alias if chance.random() < 0.6 else chance.choice(aliases[alias])
        return "let " + (name if chance.random() < 0.96 else chance.choice(everything)) + " be " + near(aliases[alias])

    rows = ["let " + alias + " be " + chance.choice(names) for alias, names in aliases.items()]
    deep = 0
    for number in range(many):
        label = word(number)
        who = near(parties) if chance.random() < 0.8 else "any"
        kind = chance.choice(["let", "let", "part", "part", "done", "must", "may", "ban", "power"])
        if kind == "let":
            rows.append(let())
        elif kind == "part" and deep < 6:
            deep += 1
            named = [near(rooms) for place in range(chance.choice([0, 0, 1, 3, 6]))]
            rows.append(" ".join(["part", label] + (["in"] + named if named else [])))
        elif kind == "done" and deep > 0:
            deep -= 1
            rows.append("done")
        elif kind == "must":
            turns = str(chance.randint(1, 12))
            rows.append(" ".join([label, near(parties), "must", near(acts), "by", turns, "else", near(rooms)]))
        elif kind == "ban":
            rows.append(" ".join([label, who, "may not", near(acts), "else", near(rooms)]))
        elif kind == "power":
            rows.append(" ".join([label, who, "by", near(acts), "to", near(rooms)]))
        else:
            rows.append(" ".join([label, who, "may", near(acts)]))
    return rows + ["done"] * deep
