"""Promises 9 and 16: what one row of text writes; and of promises 2 and 8 what goes for it."""

import unittest

from made_texts import CLAUSES, KEPT, form_of
from pactway.clauses import Ban, Clause, Duty, Leave, Power
from pactway.parts import Let, Part
from pactway.rows import clause_of, let_of, names_of, part_of, room_of

DUTY = "c ann must pay by 3 else late"
LEAVE = "g bob may send"
BAN = "f any may not send else late"
POWER = "e ann by pay to sale"
LET = "let buyer be ann"
PART = "part cure in late over"
BARE_PART = "part open"
ROOM = "calm sale"
ROWS = [DUTY, LEAVE, BAN, POWER, LET, PART, BARE_PART, ROOM, "parties ann bob", "acts pay", "done", "sore late",
        "end over"]
CLASSES = {"must": Duty, "may": Leave, "ban": Ban, "power": Power}


def what_is_written(row):
    """The form of a row as the four functions tell it."""
    clause, let, part, room = clause_of(row), let_of(row), part_of(row), room_of(row)
    told = [thing for thing in (clause, let, part, room) if thing is not None]
    if len(told) > 1:
        return "two things"
    if clause is not None:
        return clause.sort_word()
    if let is not None:
        return "let"
    if part is not None:
        return "part"
    return "room" if room is not None else None


def changed_rows(row):
    words = row.split(" ")
    others = KEPT + ["ann", "x", "abcdefgh", "abcdefghi", "", "3", "0", "07", "Ann", "a1", "ann;", "9" * 20, "9" * 21]
    for place in range(len(words) + 1):
        for other in others:
            yield " ".join(words[:place] + [other] + words[place:])
    for place in range(len(words)):
        yield " ".join(words[:place] + words[place + 1:])
        for other in others:
            yield " ".join(words[:place] + [other] + words[place + 1:])
        for further in range(place + 1, len(words)):
            swapped = list(words)
            swapped[place], swapped[further] = swapped[further], swapped[place]
            yield " ".join(swapped)
        yield " ".join(words[:place])
        yield " ".join(words[place:])
        yield " ".join(words[:place]) + "  " + " ".join(words[place:])
        yield " ".join(words[:place]) + "\n" + " ".join(words[place:])
        yield " ".join(words[:place]) + "\t" + " ".join(words[place:])
    for place in range(len(row)):
        yield row[:place] + row[place + 1:]
        yield row[:place] + " " + row[place:]
        yield row[:place] + row[place].upper() + row[place + 1:]
    for end in [" ", ";", "; ", "\n", ".", "x"]:
        yield row + end
        yield end + row


class Clauses(unittest.TestCase):
    def test_a_duty(self):
        told = clause_of(DUTY)
        self.assertIs(type(told), Duty)
        self.assertEqual((told.label, told.who, told.act, told.turns, told.room), ("c", "ann", "pay", 3, "late"))
        self.assertIs(type(told.turns), int)

    def test_a_leave(self):
        told = clause_of(LEAVE)
        self.assertIs(type(told), Leave)
        self.assertEqual((told.label, told.who, told.act), ("g", "bob", "send"))

    def test_a_ban(self):
        told = clause_of(BAN)
        self.assertIs(type(told), Ban)
        self.assertEqual((told.label, told.who, told.act, told.room), ("f", "any", "send", "late"))

    def test_a_power(self):
        told = clause_of(POWER)
        self.assertIs(type(told), Power)
        self.assertEqual((told.label, told.who, told.act, told.room), ("e", "ann", "pay", "sale"))

    def test_any_in_leaves_bans_and_powers_alone(self):
        self.assertEqual(clause_of("g any may send").who, "any")
        self.assertEqual(clause_of("g any may not send else late").who, "any")
        self.assertEqual(clause_of("g any by send to late").who, "any")
        self.assertIsNone(clause_of("g any must send by 3 else late"))
        for row in ["any ann may send", "g ann may any", "g ann may not any else late", "g ann may not pay else any",
                    "g ann by any to late", "g ann by pay to any", "g ann must any by 1 else late",
                    "g ann must pay by 1 else any", "any any may any"]:
            with self.subTest(row=row):
                self.assertIsNone(clause_of(row))

    def test_numbers(self):
        for number, turns in [("1", 1), ("10", 10), ("9" * 20, 10 ** 20 - 1), ("1" + "0" * 19, 10 ** 19)]:
            self.assertEqual(clause_of("c ann must pay by " + number + " else late").turns, turns)
        for number in ["0", "07", "-1", "", "1" + "0" * 20, "x", "three", "+1", "1.", "any"]:
            with self.subTest(number=number):
                self.assertIsNone(clause_of("c ann must pay by " + number + " else late"))

    def test_long_names(self):
        self.assertEqual(clause_of("abcdefgh abcdefgh may abcdefgh").rows_told(), ["abcdefgh abcdefgh may abcdefgh"])
        for row in ["abcdefghi ann may pay", "c abcdefghi may pay", "c ann may abcdefghi",
                    "c ann by pay to abcdefghi", "c ann must pay by 1 else abcdefghi"]:
            self.assertIsNone(clause_of(row))

    def test_names_alike_are_let_by(self):
        for row in ["x x must x by 1 else x", "x x may x", "x x may not x else x", "x x by x to x"]:
            with self.subTest(row=row):
                self.assertEqual(clause_of(row).rows_told(), [row])

    def test_no_clause(self):
        for row in ["", " ", "c", "c ann", "c ann may", "c ann may not", "c ann may not pay", "c ann may not pay else",
                    "c ann may pay else late", "c ann may not pay to late", "c ann by pay else late", "c ann by pay",
                    "c ann must pay", "c ann must pay by 3", "c ann must pay by 3 to late", "c ann must not pay",
                    "c ann must pay else late", "ann may pay", "c may pay", LET, PART, BARE_PART, ROOM, "done",
                    "parties ann bob", "acts pay", "let ann may pay", "c ann power pay"]:
            with self.subTest(row=row):
                self.assertIsNone(clause_of(row))

    def test_the_row_of_what_was_told_is_the_row(self):
        for row in [DUTY, LEAVE, BAN, POWER]:
            self.assertEqual(clause_of(row).rows_told(), [row])
            self.assertIsInstance(clause_of(row), Clause)


class Lets(unittest.TestCase):
    def test_a_let(self):
        told = let_of(LET)
        self.assertIs(type(told), Let)
        self.assertEqual((told.name, told.value), ("buyer", "ann"))

    def test_names_alike(self):
        self.assertEqual(let_of("let ann be ann").rows_told(), ["let ann be ann"])

    def test_no_let(self):
        for row in ["", "let", "let a", "let a be", "let a b", "let a be b c", "let be b", "let a is b", "a be b",
                    "let a be any", "let any be a", "let rest be a", "let a be whole", "let a be 3", "let be be be",
                    "let abcdefghi be a", "let a be abcdefghi", "let a be b ", " let a be b", "let  a be b",
                    "Let a be b", DUTY, PART, ROOM, "done"]:
            with self.subTest(row=row):
                self.assertIsNone(let_of(row))


class Parts(unittest.TestCase):
    def assert_part(self, row, name, rooms):
        told = part_of(row)
        self.assertIs(type(told), Part)
        self.assertEqual((told.name, told.rooms, told.rows), (name, rooms, []))

    def test_a_part_without_in(self):
        self.assert_part("part open", "open", [])

    def test_a_part_with_in(self):
        self.assert_part("part cure in late", "cure", ["late"])
        self.assert_part("part cure in late over", "cure", ["late", "over"])

    def test_names_alike(self):
        self.assert_part("part cure in late late cure", "cure", ["late", "late", "cure"])

    def test_twelve_and_thirteen_rooms(self):
        names = list("abcdefghijklm")
        for many in range(1, 13):
            self.assert_part("part cure in " + " ".join(names[:many]), "cure", names[:many])
        self.assertIsNone(part_of("part cure in " + " ".join(names)))
        self.assert_part("part cure in" + " a" * 12, "cure", ["a"] * 12)
        self.assertIsNone(part_of("part cure in" + " a" * 13))

    def test_no_part(self):
        for row in ["", "part", "part ", "part cure in", "part cure in ", "part cure late", "part cure on late",
                    "part in late", "part in in late", "part whole", "part whole in late", "part any", "part done",
                    "part cure in any", "part cure in late any", "part cure in in", "part cure in late in over",
                    "part abcdefghi", "part cure in abcdefghi", "part cure  in late", "part cure in late ",
                    " part cure", "Part cure", "parts cure", "part 1", "part cure in 1", "cure in late", "done", DUTY,
                    LET, ROOM]:
            with self.subTest(row=row):
                self.assertIsNone(part_of(row))


class Rooms(unittest.TestCase):
    def test_rooms(self):
        for mark in ["calm", "sore", "end"]:
            told = room_of(mark + " sale")
            self.assertIs(type(told), tuple)
            self.assertEqual(told, (mark, "sale"))

    def test_no_room(self):
        for row in ["", "calm", "calm ", "calm  sale", "calm sale ", " calm sale", "calm sale late", "sale",
                    "sale calm", "calm calm", "calm any", "end end", "sore rest", "calm abcdefghi", "calm 1",
                    "Calm sale", "calm Sale", "room sale", "may sale", "calmsale", "calm sale;", DUTY, LET, PART]:
            with self.subTest(row=row):
                self.assertIsNone(room_of(row))


class Names(unittest.TestCase):
    def test_names(self):
        self.assertEqual(names_of("parties ann", "parties", 4), ["ann"])
        self.assertEqual(names_of("parties ann bob", "parties", 4), ["ann", "bob"])
        self.assertEqual(names_of("acts send pay ask", "acts", 6), ["send", "pay", "ask"])
        self.assertEqual(names_of("friends ann bob", "friends", 2), ["ann", "bob"])

    def test_most(self):
        for most in range(14):
            for many in range(16):
                with self.subTest(most=most, many=many):
                    names = list("abcdefghijklmnop")[:many]
                    wanted = names if 1 <= many <= most else []
                    self.assertEqual(names_of(" ".join(["acts"] + names), "acts", most), wanted)

    def test_names_alike(self):
        self.assertEqual(names_of("parties ann ann", "parties", 4), ["ann", "ann"])
        self.assertEqual(names_of("friends friends friends", "friends", 4), ["friends", "friends"])

    def test_none_such(self):
        for row in ["", "parties", "parties ", "parties  ann", "parties ann ", " parties ann", "parties ann  bob",
                    "parties any", "parties ann rest", "parties ann Bob", "parties ann 1", "parties ann abcdefghi",
                    "acts ann", "ann bob", "partie ann", "partiess ann", "parties ann;", "parties ann; bob",
                    "parties parties", "parties\nann", "parties ann\n"]:
            with self.subTest(row=row):
                told = names_of(row, "parties", 4)
                self.assertIs(type(told), list)
                self.assertEqual(told, [])


class AllRows(unittest.TestCase):
    def test_each_row_writes_one_thing_at_most(self):
        for row in ROWS:
            with self.subTest(row=row):
                wanted = form_of(row)
                self.assertEqual(what_is_written(row), None if wanted in ["parties", "acts", "done"] else wanted)

    def test_words_left_out_put_in_and_put_otherwise(self):
        asked = {changed for row in ROWS for changed in changed_rows(row)}
        self.assertGreater(len(asked), 3000)
        for row in sorted(asked):
            wanted = form_of(row)
            with self.subTest(row=row):
                self.assertEqual(what_is_written(row), None if wanted in ["parties", "acts", "done"] else wanted)
                self.assertEqual(names_of(row, "parties", 4) != [], wanted == "parties")
                self.assertEqual(names_of(row, "acts", 6) != [], wanted == "acts")
                if wanted in CLAUSES:
                    self.assertIs(type(clause_of(row)), CLASSES[wanted])
                    self.assertEqual(clause_of(row).rows_told(), [row])
                if wanted == "let":
                    self.assertEqual(let_of(row).rows_told(), [row])
                if wanted == "part":
                    self.assertEqual(part_of(row).rows_told(), [row, "done"])
                if wanted == "room":
                    self.assertEqual(" ".join(room_of(row)), row)


class TheAskersOwn(unittest.TestCase):
    def test_names(self):
        told = names_of("parties ann bob", "parties", 4)
        other = names_of("parties ann bob", "parties", 4)
        told.append("eve")
        told[0] = "dan"
        self.assertEqual(other, ["ann", "bob"])
        self.assertEqual(names_of("parties ann bob", "parties", 4), ["ann", "bob"])
        none = names_of("parties", "parties", 4)
        none.append("eve")
        self.assertEqual(names_of("parties", "parties", 4), [])
        self.assertEqual(names_of("acts", "parties", 4), [])

    def test_parts_and_clauses_are_new_each_time(self):
        self.assertIsNot(part_of(PART), part_of(PART))
        self.assertIsNot(part_of(PART).rooms, part_of(PART).rooms)
        self.assertIsNot(part_of(BARE_PART).rows, part_of(BARE_PART).rows)
        self.assertIsNot(clause_of(DUTY), clause_of(DUTY))
        self.assertIsNot(let_of(LET), let_of(LET))


if __name__ == "__main__":
    unittest.main()
