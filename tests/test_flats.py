"""Promises 17 and 18: names bound, and clauses told flat; and of promises 2, 3 and 4 what goes for them."""

import unittest

from made_texts import CLAUSES, HEADER, SALE, form_of, made_text, word
from pactway.clauses import Ban, Duty, Leave, Power
from pactway.errors import CalmRoom, NoName, PactError
from pactway.flats import Scope, flat
from pactway.parts import Let, Pact, Part, shown
from pactway.reader import read

SALE_FLAT = [
    ("c", "must", "ann", "pay", 3, "late", ["sale", "late", "over"], 0),
    ("d", "must", "ann", "pay", 2, "over", ["late"], 1),
    ("e", "power", "ann", "pay", 0, "sale", ["late"], 1),
    ("f", "ban", "any", "send", 0, "late", ["sale", "late", "over"], 0),
    ("g", "may", "bob", "send", 0, "", ["sale", "over"], 1),
]
ROOMS = ["sale", "late", "over"]


def header_pact():
    return read(HEADER)


def flat_of(rows):
    return flat(read(HEADER + "; " + rows))


class Wrong(Exception):
    """What the second telling below refuses: the class's name and the word."""


class Texts:
    """Promises 17 and 18 told once more, by the rows of the text alone: each name is sought backwards from its row."""

    def __init__(self, text):
        self.rows = [row.split(" ") for row in text.split("; ")]
        self.around = []
        chain = []
        for number, words in enumerate(self.rows):
            if words == ["done"]:
                chain = chain[:-1]
            self.around.append(chain)
            if words[0] == "part":
                chain = chain + [number]
        self.marks = [(words[1], words[0]) for words in self.rows if words[0] in ("calm", "sore", "end")]

    def means(self, name, at):
        """(kind, name) of what the name means at a row, None where it means nothing."""
        for number in range(at - 1, -1, -1):
            words, around = self.rows[number], self.around[number]
            if words[:2] == ["let", name] and around == self.around[at][:len(around)]:
                return self.means(words[3], number)
        if name in self.rows[0][1:]:
            return ("party", name)
        if name in self.rows[1][1:]:
            return ("act", name)
        return ("room", name) if name in dict(self.marks) else None

    def meant(self, name, at, kind):
        found = self.means(name, at)
        if found is None or found[0] != kind:
            raise Wrong("NoName", name)
        return found[1]

    def falls(self, name, at):
        room = self.meant(name, at, "room")
        if dict(self.marks)[room] == "calm":
            raise Wrong("CalmRoom", name)
        return room

    def in_force(self, at):
        rooms = [name for name, mark in self.marks]
        for number in self.around[at]:
            words = self.rows[number]
            if len(words) > 2:
                rooms = [room for room in rooms if room in [self.means(name, number)[1] for name in words[3:]]]
        return rooms

    def flat(self):
        told = []
        for at, words in enumerate(self.rows):
            form = form_of(" ".join(words))
            if form == "let" and self.means(words[3], at) is None:
                raise Wrong("NoName", words[3])
            if form == "part":
                for name in words[3:]:
                    self.meant(name, at, "room")
            if form in CLAUSES:
                told.append(self.clause(at, words, form))
        return told

    def clause(self, at, words, form):
        who = "any" if words[1] == "any" else self.meant(words[1], at, "party")
        act = self.meant(words[4 if form == "ban" else 3], at, "act")
        room, number = "", 0
        if form == "must":
            room, number = self.falls(words[7], at), int(words[5])
        if form == "ban":
            room = self.falls(words[6], at)
        if form == "power":
            room = self.meant(words[5], at, "room")
        return (words[0], form, who, act, number, room, self.in_force(at), len(self.around[at]))


class Asking(unittest.TestCase):
    def assert_refused(self, error, name, ask, *things):
        with self.subTest(error=error.__name__, word=name):
            with self.assertRaises(PactError) as taken:
                ask(*things)
            self.assertIs(type(taken.exception), error)
            self.assertEqual(taken.exception.word, name)

    def assert_row_refused(self, rows, error, name):
        self.assert_refused(error, name, flat_of, rows)


class Beginning(Asking):
    def setUp(self):
        self.scope = Scope(header_pact())

    def test_parties(self):
        self.assertEqual([self.scope.party(name) for name in ["ann", "bob", "any"]], ["ann", "bob", "any"])
        for name in ["pay", "send", "sale", "late", "over", "eve", "", "whole", "rest", "c", "Ann", "an"]:
            self.assert_refused(NoName, name, self.scope.party, name)

    def test_acts(self):
        self.assertEqual([self.scope.deed(name) for name in ["pay", "send"]], ["pay", "send"])
        for name in ["ann", "bob", "sale", "late", "over", "any", "rest", "keep", "", "pays"]:
            self.assert_refused(NoName, name, self.scope.deed, name)

    def test_rooms(self):
        self.assertEqual([self.scope.room_for(name) for name in ROOMS], ROOMS)
        for name in ["ann", "bob", "pay", "send", "any", "whole", "shop", "", "calm", "sore", "end", "party", "act"]:
            self.assert_refused(NoName, name, self.scope.room_for, name)

    def test_rooms_behind_an_else(self):
        self.assertEqual([self.scope.falls_to(name) for name in ["late", "over"]], ["late", "over"])
        self.assert_refused(CalmRoom, "sale", self.scope.falls_to, "sale")
        for name in ["ann", "pay", "any", "shop", "", "calm"]:
            self.assert_refused(NoName, name, self.scope.falls_to, name)

    def test_the_marks(self):
        scope = Scope(read("parties a; acts b; sore c; calm d; end e; calm f; sore g"))
        for name in "ceg":
            self.assertEqual(scope.falls_to(name), name)
        for name in "df":
            self.assert_refused(CalmRoom, name, scope.falls_to, name)
            self.assertEqual(scope.room_for(name), name)

    def test_rows_of_the_agreement_bind_nothing_yet(self):
        scope = Scope(read(HEADER + "; let buyer be ann; let ann be bob; part p; done; c ann may pay"))
        self.assertEqual(scope.party("ann"), "ann")
        for name in ["buyer", "p", "c"]:
            self.assert_refused(NoName, name, scope.party, name)

    def test_beyond_the_bounds_nothing_is_refused(self):
        names = [word(number) for number in range(40)]
        scope = Scope(Pact(names[:6], names[6:14], [("sore", name) for name in names[14:]], Part("whole", [], [])))
        self.assertEqual([scope.party(name) for name in names[:6]], names[:6])
        self.assertEqual([scope.deed(name) for name in names[6:14]], names[6:14])
        self.assertEqual([scope.falls_to(name) for name in names[14:]], names[14:])


class Bound(Asking):
    def setUp(self):
        self.scope = Scope(header_pact())

    def test_each_kind(self):
        self.scope.bind("buyer", "ann")
        self.scope.bind("give", "pay")
        self.scope.bind("shop", "sale")
        self.scope.bind("trouble", "late")
        self.assertEqual(self.scope.party("buyer"), "ann")
        self.assertEqual(self.scope.deed("give"), "pay")
        self.assertEqual(self.scope.room_for("shop"), "sale")
        self.assertEqual(self.scope.falls_to("trouble"), "late")
        self.assertEqual((self.scope.party("ann"), self.scope.deed("pay")), ("ann", "pay"))

    def test_what_is_bound_is_of_its_kind_alone(self):
        self.scope.bind("buyer", "ann")
        self.scope.bind("give", "pay")
        self.scope.bind("shop", "sale")
        for name in ["give", "shop"]:
            self.assert_refused(NoName, name, self.scope.party, name)
        for name in ["buyer", "shop"]:
            self.assert_refused(NoName, name, self.scope.deed, name)
        for name in ["buyer", "give"]:
            self.assert_refused(NoName, name, self.scope.room_for, name)
            self.assert_refused(NoName, name, self.scope.falls_to, name)

    def test_the_word_is_the_name_as_written(self):
        self.scope.bind("shop", "sale")
        self.scope.bind("store", "shop")
        self.assert_refused(CalmRoom, "store", self.scope.falls_to, "store")
        self.assert_refused(NoName, "store", self.scope.party, "store")

    def test_a_name_of_the_header(self):
        self.scope.bind("buyer", "ann")
        self.scope.bind("ann", "bob")
        self.assertEqual((self.scope.party("buyer"), self.scope.party("ann")), ("ann", "bob"))
        self.scope.bind("bob", "buyer")
        self.assertEqual([self.scope.party(name) for name in ["buyer", "ann", "bob"]], ["ann", "bob", "ann"])

    def test_a_name_of_another_kind(self):
        self.scope.bind("ann", "pay")
        self.assertEqual(self.scope.deed("ann"), "pay")
        self.assert_refused(NoName, "ann", self.scope.party, "ann")
        self.scope.bind("late", "sale")
        self.assertEqual(self.scope.room_for("late"), "sale")
        self.assert_refused(CalmRoom, "late", self.scope.falls_to, "late")
        self.scope.bind("sale", "over")
        self.assertEqual(self.scope.falls_to("sale"), "over")
        self.assertEqual(self.scope.room_for("late"), "sale")

    def test_a_name_bound_to_itself(self):
        self.scope.bind("ann", "ann")
        self.assertEqual(self.scope.party("ann"), "ann")
        self.assert_refused(NoName, "x", self.scope.bind, "x", "x")

    def test_a_later_let_takes_its_place(self):
        self.scope.bind("x", "ann")
        self.scope.bind("y", "x")
        self.scope.bind("x", "bob")
        self.assertEqual((self.scope.party("x"), self.scope.party("y")), ("bob", "ann"))
        self.scope.bind("x", "late")
        self.assertEqual(self.scope.room_for("x"), "late")
        self.assert_refused(NoName, "x", self.scope.party, "x")

    def test_a_value_that_means_nothing(self):
        self.scope.bind("x", "ann")
        for value in ["eve", "any", "whole", "rest", "", "calm", "party"]:
            for name in ["x", "ann", "new"]:
                self.assert_refused(NoName, value, self.scope.bind, name, value)
        self.assertEqual((self.scope.party("x"), self.scope.party("ann")), ("ann", "ann"))
        self.assert_refused(NoName, "new", self.scope.party, "new")

    def test_any_stays_any(self):
        self.scope.bind("x", "ann")
        self.assertEqual(self.scope.party("any"), "any")


class Copies(Asking):
    def test_a_copy_knows_the_same(self):
        scope = Scope(header_pact())
        scope.bind("buyer", "ann")
        scope.bind("ann", "bob")
        scope.bind("late", "sale")
        copy = scope.copied()
        self.assertIs(type(copy), Scope)
        self.assertIsNot(copy, scope)
        self.assertEqual([copy.party(name) for name in ["buyer", "ann", "bob"]], ["ann", "bob", "bob"])
        self.assertEqual((copy.deed("pay"), copy.room_for("late"), copy.falls_to("over")), ("pay", "sale", "over"))
        self.assert_refused(CalmRoom, "late", copy.falls_to, "late")
        self.assert_refused(NoName, "eve", copy.party, "eve")

    def test_neither_changes_the_other(self):
        scope = Scope(header_pact())
        scope.bind("x", "ann")
        copy = scope.copied()
        copy.bind("x", "bob")
        copy.bind("y", "pay")
        copy.bind("late", "sale")
        self.assertEqual((scope.party("x"), copy.party("x")), ("ann", "bob"))
        self.assert_refused(NoName, "y", scope.deed, "y")
        self.assertEqual(scope.falls_to("late"), "late")
        scope.bind("x", "send")
        scope.bind("z", "over")
        self.assertEqual((scope.deed("x"), copy.party("x")), ("send", "bob"))
        self.assert_refused(NoName, "z", copy.room_for, "z")

    def test_a_copy_of_a_copy(self):
        scope = Scope(header_pact())
        first = scope.copied()
        first.bind("x", "ann")
        second = first.copied()
        first.bind("x", "bob")
        self.assertEqual((first.party("x"), second.party("x")), ("bob", "ann"))
        self.assert_refused(NoName, "x", scope.party, "x")

    def test_two_scopes_of_one_agreement(self):
        pact = header_pact()
        one, other = Scope(pact), Scope(pact)
        one.bind("ann", "bob")
        self.assertEqual((one.party("ann"), other.party("ann"), Scope(pact).party("ann")), ("bob", "ann", "ann"))
        self.assertEqual(shown(pact), HEADER)


class Flat(Asking):
    def test_the_documents_agreement(self):
        self.assertEqual(flat(read(SALE)), SALE_FLAT)

    def test_kinds(self):
        told = flat(read(SALE))
        self.assertIs(type(told), list)
        for row in told:
            self.assertIs(type(row), tuple)
            self.assertEqual([type(thing) for thing in row], [str, str, str, str, int, str, list, int])

    def test_no_clauses(self):
        self.assertEqual(flat(header_pact()), [])
        self.assertEqual(flat_of("let x be ann; part p in late; let y be x; done"), [])

    def test_each_sort(self):
        self.assertEqual(flat_of("a ann must pay by 12345678901234567890 else over; b any may send; "
                                 "c bob may not pay else late; d any by send to sale"),
                         [("a", "must", "ann", "pay", 12345678901234567890, "over", ROOMS, 0),
                          ("b", "may", "any", "send", 0, "", ROOMS, 0),
                          ("c", "ban", "bob", "pay", 0, "late", ROOMS, 0),
                          ("d", "power", "any", "send", 0, "sale", ROOMS, 0)])

    def test_what_the_names_mean(self):
        self.assertEqual(flat_of("let buyer be ann; let give be pay; let shop be sale; let bad be late; "
                                 "a buyer must give by 2 else bad; b buyer may give; c buyer may not give else bad; "
                                 "d buyer by give to shop; part p in shop bad; e any may give; done"),
                         [("a", "must", "ann", "pay", 2, "late", ROOMS, 0), ("b", "may", "ann", "pay", 0, "", ROOMS, 0),
                          ("c", "ban", "ann", "pay", 0, "late", ROOMS, 0),
                          ("d", "power", "ann", "pay", 0, "sale", ROOMS, 0),
                          ("e", "may", "any", "pay", 0, "", ["sale", "late"], 1)])

    def test_labels_are_not_looked_up(self):
        self.assertEqual(flat_of("let x be ann; x x may pay; ann bob may pay; part pay; late x may send; done"),
                         [("x", "may", "ann", "pay", 0, "", ROOMS, 0), ("ann", "may", "bob", "pay", 0, "", ROOMS, 0),
                          ("late", "may", "ann", "send", 0, "", ROOMS, 1)])

    def test_made_by_hand(self):
        inner = Part("q", ["bad", "bad"], [Power("e", "any", "pay", "sale")])
        part = Part("p", [], [Let("x", "y"), Ban("c", "x", "pay", "bad"), inner])
        whole = Part("whole", [], [Let("y", "bob"), Let("bad", "late"), Duty("a", "ann", "pay", 3, "bad"), part,
                                   Leave("f", "y", "pay")])
        pact = Pact(["ann", "bob"], ["pay"], [("sore", "late"), ("calm", "sale")], whole)
        self.assertEqual(flat(pact), [
            ("a", "must", "ann", "pay", 3, "late", ["late", "sale"], 0),
            ("c", "ban", "bob", "pay", 0, "late", ["late", "sale"], 1),
            ("e", "power", "any", "pay", 0, "sale", ["late"], 2),
            ("f", "may", "bob", "pay", 0, "", ["late", "sale"], 0)])
        self.assertEqual(flat(read(shown(pact))), flat(pact))

    def test_labels_alike_made_by_hand(self):
        whole = Part("whole", [], [Leave("a", "ann", "pay"), Part("a", [], [Leave("a", "ann", "pay")])])
        self.assertEqual(flat(Pact(["ann"], ["pay"], [("end", "over")], whole)),
                         [("a", "may", "ann", "pay", 0, "", ["over"], 0),
                          ("a", "may", "ann", "pay", 0, "", ["over"], 1)])

    def test_one_part_in_two_places_by_hand(self):
        part = Part("p", ["x"], [Leave("a", "ann", "pay")])
        whole = Part("whole", [], [Let("x", "sale"), part, Let("x", "late"), part])
        pact = Pact(["ann"], ["pay"], [("calm", "sale"), ("sore", "late")], whole)
        self.assertEqual([told[6] for told in flat(pact)], [["sale"], ["late"]])

    def test_beyond_the_bounds_nothing_is_refused(self):
        names = [word(number) for number in range(150)]
        rows = [Leave(name, "any", names[12]) for name in names[40:]]
        for number in range(9):
            rows = [Part(names[30 + number], names[14:28], rows)]
        pact = Pact(names[:5], names[5:14], [("calm", name) for name in names[14:28]], Part("whole", [], rows))
        told = flat(pact)
        self.assertEqual(len(told), 110)
        self.assertEqual(told[-1], (names[149], "may", "any", names[12], 0, "", names[14:28], 9))


class WhereNamesHold(Asking):
    def who(self, rows):
        return {told[0]: told[2] for told in flat_of(rows)}

    def test_from_the_lets_row_on(self):
        self.assertEqual(self.who("a ann may pay; let ann be bob; b ann may pay"), {"a": "ann", "b": "bob"})
        self.assert_row_refused("a x may pay; let x be ann", NoName, "x")

    def test_one_behind_the_other(self):
        self.assertEqual(self.who("let buyer be ann; let ann be bob; a buyer may pay; b ann may pay; c bob may pay"),
                         {"a": "ann", "b": "bob", "c": "bob"})
        self.assertEqual(self.who("let x be ann; let ann be bob; let bob be x; a ann may pay; b bob may pay"),
                         {"a": "bob", "b": "ann"})

    def test_a_later_let_of_the_same_part(self):
        self.assertEqual(self.who("let x be ann; a x may pay; let x be bob; b x may pay"), {"a": "ann", "b": "bob"})

    def test_within_the_parts_in_it(self):
        self.assertEqual(self.who("let x be ann; part p; a x may pay; part q; b x may pay; done; done"),
                         {"a": "ann", "b": "ann"})

    def test_to_the_end_of_its_part(self):
        self.assertEqual(self.who("let x be ann; part p; let x be bob; a x may pay; done; b x may pay"),
                         {"a": "bob", "b": "ann"})
        self.assertEqual(self.who("part p; let ann be bob; a ann may pay; done; b ann may pay; part q; c ann may pay; "
                                  "done"), {"a": "bob", "b": "ann", "c": "ann"})
        self.assert_row_refused("part p; let x be ann; done; a x may pay", NoName, "x")
        self.assert_row_refused("part p; let x be ann; done; let y be x", NoName, "x")
        self.assert_row_refused("part p; let x be ann; done; part q; a x may pay; done", NoName, "x")

    def test_parts_in_parts_each_with_its_own(self):
        self.assertEqual(self.who("let x be ann; part p; let x be bob; part q; let x be ann; a x may pay; done; "
                                  "b x may pay; done; c x may pay"), {"a": "ann", "b": "bob", "c": "ann"})

    def test_a_let_in_a_part_behind_the_outer_one(self):
        self.assertEqual(self.who("part p; let x be ann; part q; a x may pay; let x be bob; b x may pay; done; "
                                  "c x may pay; let x be bob; d x may pay; done"),
                         {"a": "ann", "b": "bob", "c": "ann", "d": "bob"})

    def test_a_let_in_the_whole_behind_a_part(self):
        self.assertEqual(self.who("part p; a ann may pay; done; let ann be bob; b ann may pay; part q; c ann may pay; "
                                  "done"), {"a": "ann", "b": "bob", "c": "bob"})

    def test_a_parts_rooms_by_the_names_outside(self):
        self.assertEqual(flat_of("let x be sale; part p in x; let x be late; a ann may pay; part q in sale; "
                                 "b ann may pay; done; part r in x; c ann may pay; done; done"),
                         [("a", "may", "ann", "pay", 0, "", ["sale"], 1),
                          ("b", "may", "ann", "pay", 0, "", ["sale"], 2),
                          ("c", "may", "ann", "pay", 0, "", [], 2)])
        self.assert_row_refused("part p in x; let x be sale; done", NoName, "x")

    def test_rooms_that_changed_names(self):
        self.assertEqual(flat_of("let x be sale; let sale be late; let late be x; part p in sale; "
                                 "a ann by pay to late; b ann may not send else sale; done"),
                         [("a", "power", "ann", "pay", 0, "sale", ["late"], 1),
                          ("b", "ban", "ann", "send", 0, "late", ["late"], 1)])


class Refused(Asking):
    def test_who(self):
        for name in ["eve", "pay", "late", "c", "p", "x"]:
            for tail in ["must pay by 1 else late", "may pay", "may not pay else late", "by pay to sale"]:
                self.assert_row_refused("let x be pay; part p; c ann may pay; done; d " + name + " " + tail,
                                        NoName, name)

    def test_act(self):
        for name in ["keep", "ann", "late", "c", "p", "x"]:
            for tail in ["must {} by 1 else late", "may {}", "may not {} else late", "by {} to sale"]:
                self.assert_row_refused("let x be ann; part p; c ann may pay; done; d ann " + tail.replace("{}", name),
                                        NoName, name)

    def test_room(self):
        for name in ["shop", "ann", "pay", "c", "p", "x"]:
            for tail in ["must pay by 1 else ", "may not pay else ", "by pay to "]:
                self.assert_row_refused("let x be ann; part p; c ann may pay; done; d ann " + tail + name, NoName, name)

    def test_a_calm_room_behind_an_else(self):
        self.assert_row_refused("d ann must pay by 1 else sale", CalmRoom, "sale")
        self.assert_row_refused("d ann may not pay else sale", CalmRoom, "sale")
        self.assert_row_refused("let x be sale; d ann may not pay else x", CalmRoom, "x")
        self.assert_row_refused("let late be sale; d ann must pay by 2 else late", CalmRoom, "late")
        self.assertEqual(flat_of("d ann by pay to sale")[0][5], "sale")
        self.assertEqual(flat_of("let sale be late; d ann may not pay else sale")[0][5], "late")
        self.assertEqual(flat_of("d ann may not pay else over")[0][5], "over")

    def test_calm_where_the_part_does_not_reach(self):
        self.assert_row_refused("part p in late; part q in over; d ann may not pay else sale; done; done",
                                CalmRoom, "sale")
        self.assert_row_refused("part p in late; part q in over; d eve may pay; done; done", NoName, "eve")

    def test_a_value_that_means_nothing(self):
        for name in ["eve", "c", "p"]:
            self.assert_row_refused("c ann may pay; part p; let x be " + name + "; done", NoName, name)

    def test_a_parts_rooms(self):
        for name in ["shop", "ann", "pay", "c", "q", "p"]:
            self.assert_row_refused("c ann may pay; part q; done; part p in late " + name + "; done", NoName, name)
        self.assert_row_refused("part p in late; part q in shop; done; done", NoName, "shop")

    def test_a_row_from_left_to_right(self):
        for row, error, name in [
            ("d eve must keep by 1 else shop", NoName, "eve"), ("d ann must keep by 1 else shop", NoName, "keep"),
            ("d ann must pay by 1 else shop", NoName, "shop"), ("d eve must keep by 1 else sale", NoName, "eve"),
            ("d ann must keep by 1 else sale", NoName, "keep"), ("d eve may keep", NoName, "eve"),
            ("d any may keep", NoName, "keep"), ("d eve may not keep else sale", NoName, "eve"),
            ("d any may not keep else sale", NoName, "keep"), ("d any may not pay else sale", CalmRoom, "sale"),
            ("d eve by keep to shop", NoName, "eve"), ("d any by keep to shop", NoName, "keep"),
            ("d any by pay to shop", NoName, "shop"), ("part p in late shop store; done", NoName, "shop"),
        ]:
            self.assert_row_refused(row, error, name)

    def test_the_first_wrong_row(self):
        wrong = [("let x be eve", NoName, "eve"), ("part p in shop; done", NoName, "shop"),
                 ("a ann may keep", NoName, "keep"), ("b any may not pay else sale", CalmRoom, "sale")]
        for first, error, name in wrong:
            for second, other_error, other_name in wrong:
                if first != second:
                    self.assert_row_refused(first + "; " + second, error, name)
                    self.assert_row_refused("part o; " + first + "; done; " + second, error, name)
                    self.assert_row_refused(first + "; part o; " + second + "; done", error, name)
                    self.assert_row_refused("c ann may pay; " + first + "; d bob may pay; " + second, error, name)

    def test_a_parts_rooms_ahead_of_its_rows(self):
        self.assert_row_refused("part p in shop; a eve may pay; done", NoName, "shop")

    def test_made_by_hand(self):
        for rows, error, name in [
            ([Let("x", "eve")], NoName, "eve"), ([Leave("a", "eve", "pay")], NoName, "eve"),
            ([Ban("a", "any", "pay", "sale")], CalmRoom, "sale"), ([Part("p", ["shop"], [])], NoName, "shop"),
            ([Part("p", [], [Duty("a", "ann", "pay", 1, "sale")]), Let("x", "eve")], CalmRoom, "sale"),
        ]:
            pact = Pact(["ann"], ["pay"], [("calm", "sale"), ("sore", "late")], Part("whole", [], rows))
            self.assert_refused(error, name, flat, pact)


class InForce(Asking):
    def rooms(self, rows):
        return {told[0]: told[6] for told in flat_of(rows)}

    def test_the_whole_covers_all(self):
        self.assertEqual(self.rooms("a ann may pay"), {"a": ROOMS})

    def test_a_part_without_in(self):
        self.assertEqual(self.rooms("part p; a ann may pay; part q in late; part r; b ann may pay; done; done; done"),
                         {"a": ROOMS, "b": ["late"]})

    def test_the_headers_order(self):
        self.assertEqual(self.rooms("part p in over sale; a ann may pay; done"), {"a": ["sale", "over"]})
        self.assertEqual(self.rooms("part p in over late sale; a ann may pay; done"), {"a": ROOMS})

    def test_rooms_named_twice(self):
        self.assertEqual(self.rooms("part p in over late over late late; a ann may pay; done"), {"a": ["late", "over"]})
        self.assertEqual(self.rooms("let x be late; part p in x late; a ann may pay; done"), {"a": ["late"]})

    def test_rooms_that_the_part_around_does_not_cover(self):
        self.assertEqual(self.rooms("part p in late over; part q in sale over; a ann may pay; done; b ann may pay; "
                                    "done"), {"a": ["over"], "b": ["late", "over"]})

    def test_none_left(self):
        self.assertEqual(self.rooms("part p in late; part q in sale; a ann may pay; part r; b ann may pay; done; "
                                    "part s in late; c ann may pay; done; done; d ann may pay; done"),
                         {"a": [], "b": [], "c": [], "d": ["late"]})

    def test_behind_a_part(self):
        self.assertEqual(self.rooms("part p in late; a ann may pay; done; b ann may pay; part q in sale; "
                                    "c ann may pay; done"), {"a": ["late"], "b": ROOMS, "c": ["sale"]})

    def test_twelve_rooms(self):
        names = [word(number) for number in range(12)]
        text = "parties a; acts b; sore " + "; sore ".join(names)
        part = "; part p in " + " ".join(reversed(names)) + "; c a may b; done"
        self.assertEqual(flat(read(text + part))[0][6], names)

    def test_depth(self):
        parts = [word(number) for number in range(6)]
        rows = ["z ann may pay"]
        for name in parts:
            rows += ["part " + name, "x" + name + " ann may pay"]
        rows += ["done"] * 3 + ["y ann may pay"] + ["done"] * 3 + ["w ann may pay"]
        told = {row[0]: row[7] for row in flat_of("; ".join(rows))}
        wanted = {"x" + name: number + 1 for number, name in enumerate(parts)}
        wanted.update({"z": 0, "y": 3, "w": 0})
        self.assertEqual(told, wanted)

    def test_lets_do_not_count_as_depth(self):
        self.assertEqual([row[7] for row in flat_of("let x be ann; part p; let y be x; a y may pay; done")], [1])


class TheAskersOwn(Asking):
    def test_each_tuple_has_a_list_of_its_own(self):
        pact = read(HEADER + "; a ann may pay; b ann may pay; part p; c ann may pay; done; part q in late; "
                             "d ann may pay; e bob may pay; done")
        told = flat(pact)
        told[0][6].append("shop")
        told[3][6].clear()
        self.assertEqual([row[6] for row in told], [ROOMS + ["shop"], ROOMS, ROOMS, [], ["late"]])
        self.assertEqual([row[6] for row in flat(pact)], [ROOMS, ROOMS, ROOMS, ["late"], ["late"]])
        told.clear()
        self.assertEqual(len(flat(pact)), 5)

    def test_the_agreement_stays_as_it_is(self):
        pact = read(SALE)
        for row in flat(pact):
            row[6].append("shop")
        self.assertEqual(shown(pact), SALE)
        self.assertEqual(flat(pact), SALE_FLAT)
        self.assertEqual(pact.rooms, [("calm", "sale"), ("sore", "late"), ("end", "over")])

    def test_a_refusal_changes_nothing(self):
        pact = read(HEADER + "; let ann be bob; part p; let x be ann; c x may keep; done")
        for again in range(2):
            self.assert_refused(NoName, "keep", flat, pact)
        self.assertEqual(Scope(pact).party("ann"), "ann")

    def test_lists_changed_behind_the_call(self):
        parties, acts, rooms = ["ann"], ["pay"], [("calm", "sale"), ("sore", "late")]
        named, rows = ["late"], [Leave("a", "ann", "pay")]
        pact = Pact(parties, acts, rooms, Part("whole", [], [Part("p", named, rows)]))
        scope = Scope(pact)
        wanted = [("a", "may", "ann", "pay", 0, "", ["late"], 1)]
        told = flat(pact)
        for things in (parties, acts, rooms, named, rows):
            things.clear()
        self.assertEqual(told, wanted)
        self.assertEqual(flat(pact), wanted)
        self.assertEqual((scope.party("ann"), scope.deed("pay"), scope.falls_to("late")), ("ann", "pay", "late"))
        copy = scope.copied()
        self.assertEqual((copy.party("ann"), copy.deed("pay"), copy.room_for("sale")), ("ann", "pay", "sale"))


class ManyTexts(Asking):
    def told(self, text):
        try:
            return flat(read(text))
        except (NoName, CalmRoom) as refusal:
            return (type(refusal).__name__, refusal.word)

    def wanted(self, text):
        try:
            return Texts(text).flat()
        except Wrong as wrong:
            return wrong.args

    def test_told_twice(self):
        kinds = {"NoName": 0, "CalmRoom": 0, "flat": 0, "deep": 0, "let": 0}
        for seed in range(3000):
            text = made_text(seed)
            with self.subTest(text=text):
                wanted = self.wanted(text)
                self.assertEqual(self.told(text), wanted)
            kinds[wanted[0] if isinstance(wanted, tuple) else "flat"] += 1
            if isinstance(wanted, list):
                written = {row.split(" ")[0]: row.split(" ")[1:] for row in text.split("; ")}
                kinds["deep"] += any(row[7] > 1 and 0 < len(row[6]) for row in wanted)
                kinds["let"] += any(row[2] not in written[row[0]] for row in wanted)
        for many in kinds.values():
            self.assertGreater(many, 100, kinds)


if __name__ == "__main__":
    unittest.main()
