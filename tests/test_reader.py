"""Promises 14 and 15: texts that are read, and that are refused; and of promises 2, 3 and 4 what goes for them."""

import random
import unittest

from made_texts import CLAUSES, HEADER, SALE, form_of, made_text, word
from pactway.clauses import Ban, Duty, Leave, Power
from pactway.errors import NoText, PactError
from pactway.parts import Let, Pact, Part, depth_of, shown
from pactway.reader import read

ONE_OF_EACH = HEADER + ("; let buyer be ann; c ann must pay by 3 else late; part p; part q in late over; "
                        "f any may not send else late; done; g bob may send; done; e ann by pay to sale")
NO_ROWS = ["", " ", "x", "done done", "done ", " done", "part", "let x", "c ann may", "c any must pay by 3 else late",
           "parties eve", "acts keep", "calm", "c ann must pay by 0 else late", "part p in", "C ann may pay", "rest",
           "strike c", "c  ann may pay", "c ann may pay;", "whole", "part whole"]


def is_new(names, taken):
    return len(set(names)) == len(names) and not set(names) & taken


def wrong_row(text):
    """The row that NoText is to tell, None where the text can be read: the document's words once more."""
    rows = text.split("; ")
    taken, labels, deep, rooms, body = set(), set(), 0, 0, False
    for number, row in enumerate(rows):
        form, words = form_of(row), row.split(" ")
        if number == 90:
            return number
        if number < 2:
            if form != ["parties", "acts"][number] or not is_new(words[1:], taken):
                return number
            taken |= set(words[1:])
        elif form == "room":
            if body or rooms == 12 or not is_new(words[1:], taken):
                return number
            taken |= set(words[1:])
            rooms += 1
        elif rooms == 0:
            return number
        else:
            body = True
            label = words[0] if form in CLAUSES else words[1] if form == "part" else None
            if form not in CLAUSES + ["let", "part", "done"] or label in labels:
                return number
            labels |= {label} - {None}
            deep += {"part": 1, "done": -1}.get(form, 0)
            if deep < 0 or deep > 6:
                return number
    return len(rows) if rooms == 0 or deep > 0 else None


def names(many, start=0):
    return [word(number) for number in range(start, start + many)]


class Refusals(unittest.TestCase):
    def assert_refused(self, text, row):
        with self.subTest(text=text):
            with self.assertRaises(NoText) as taken:
                read(text)
            self.assertIs(type(taken.exception), NoText)
            self.assertIsInstance(taken.exception, PactError)
            self.assertIs(type(taken.exception.row), int)
            self.assertEqual(taken.exception.row, row)

    def assert_read(self, text):
        with self.subTest(text=text):
            self.assertEqual(shown(read(text)), text)

    def assert_as_told(self, text):
        row = wrong_row(text)
        if row is None:
            self.assert_read(text)
        else:
            self.assert_refused(text, row)


class Read(Refusals):
    def test_the_documents_text(self):
        pact = read(SALE)
        self.assertIs(type(pact), Pact)
        self.assertEqual((pact.parties, pact.acts), (["ann", "bob"], ["pay", "send"]))
        self.assertEqual(pact.rooms, [("calm", "sale"), ("sore", "late"), ("end", "over")])
        self.assertEqual([type(row) for row in pact.whole.rows], [Duty, Part, Ban, Part])
        cure, free = pact.whole.rows[1], pact.whole.rows[3]
        self.assertEqual((cure.name, cure.rooms), ("cure", ["late"]))
        self.assertEqual([type(row) for row in cure.rows], [Duty, Power])
        self.assertEqual((free.name, free.rooms), ("open", ["sale", "over"]))
        self.assertEqual([type(row) for row in free.rows], [Leave])
        duty = pact.whole.rows[0]
        self.assertEqual((duty.label, duty.who, duty.act, duty.turns, duty.room), ("c", "ann", "pay", 3, "late"))

    def test_the_kinds_of_what_is_told(self):
        pact = read(SALE)
        for things in (pact.parties, pact.acts, pact.rooms, pact.whole.rows, pact.whole.rooms):
            self.assertIs(type(things), list)
        for room in pact.rooms:
            self.assertIs(type(room), tuple)

    def test_the_least_text(self):
        for mark in ["calm", "sore", "end"]:
            pact = read("parties a; acts b; " + mark + " c")
            self.assertEqual((pact.parties, pact.acts, pact.rooms), (["a"], ["b"], [(mark, "c")]))
            self.assertEqual((pact.whole.name, pact.whole.rooms, pact.whole.rows), ("whole", [], []))

    def test_rooms_keep_their_order(self):
        self.assertEqual(read("parties a; acts b; end c; calm e; sore d; calm f").rooms,
                         [("end", "c"), ("calm", "e"), ("sore", "d"), ("calm", "f")])

    def test_rows_within_rows(self):
        whole = read(ONE_OF_EACH).whole
        self.assertEqual([type(row) for row in whole.rows], [Let, Duty, Part, Power])
        self.assertEqual([type(row) for row in whole.rows[2].rows], [Part, Leave])
        self.assertEqual([type(row) for row in whole.rows[2].rows[0].rows], [Ban])
        self.assertEqual(whole.rows[2].rows[0].rooms, ["late", "over"])

    def test_parts_behind_one_another(self):
        whole = read(HEADER + "; part a; done; part b; part c; done; part d; done; done; l ann may pay").whole
        self.assertEqual([row.rows_told() for row in whole.rows],
                         [["part a", "done"], ["part b", "part c", "done", "part d", "done", "done"],
                          ["l ann may pay"]])

    def test_each_text_is_read_anew(self):
        one, other = read(SALE), read(SALE)
        self.assertIsNot(one, other)
        self.assertIsNot(one.whole, other.whole)
        self.assertIsNot(one.parties, other.parties)
        self.assertIsNot(one.rooms, other.rooms)
        self.assertIsNot(one.whole.rows[1].rooms, other.whole.rows[1].rooms)
        with self.assertRaises(NoText):
            read(SALE + "; done")
        self.assertEqual(shown(read(SALE)), SALE)


class LetBy(Refusals):
    def test_names_alike(self):
        for row in ["let x be x", "x x may x", "x x must x by 1 else x", "x x by x to x", "x x may not x else x",
                    "part x in x x x", "let ann be ann", "let ann be bob", "let sale be pay"]:
            self.assert_read(HEADER + "; " + row + ("; done" if row.startswith("part") else ""))

    def test_unknown_names(self):
        for row in ["let x be y", "l x may y", "l x must y by 1 else z", "l x by y to z", "part p in q r; done"]:
            self.assert_read(HEADER + "; " + row)

    def test_names_of_other_things(self):
        for row in ["l pay may ann", "l sale by late to ann", "l ann must pay by 1 else sale",
                    "part p in ann pay; done"]:
            self.assert_read(HEADER + "; " + row)

    def test_a_let_told_again(self):
        self.assert_read(HEADER + "; let x be ann; let x be ann; let x be bob; part p; let x be pay; done")

    def test_a_let_called_like_a_label_or_a_part(self):
        self.assert_read(HEADER + "; c ann may pay; let c be ann; part p; done; let p be c; let c be p")

    def test_labels_and_parts_called_like_parties_acts_and_rooms(self):
        self.assert_read(HEADER + "; ann ann may pay; pay bob may pay; sale any may send; part late in late; done; "
                                  "part bob in over; done; part send; done")

    def test_a_clause_called_like_its_let(self):
        self.assert_read(HEADER + "; let buyer be ann; buyer buyer may pay; part seller in buyer; done")


class TooEarly(Refusals):
    def test_the_text_without_signs(self):
        self.assert_refused("", 0)

    def test_one_row(self):
        self.assert_refused("parties ann", 1)
        self.assert_refused("acts pay", 0)
        self.assert_refused("calm sale", 0)
        self.assert_refused("done", 0)
        self.assert_refused("x", 0)

    def test_two_rows(self):
        self.assert_refused("parties ann; acts pay", 2)
        self.assert_refused("parties ann; calm sale", 1)
        self.assert_refused("parties ann; ", 1)

    def test_cut_behind_each_row(self):
        for text in [SALE, ONE_OF_EACH]:
            rows = text.split("; ")
            deep = 0
            for number in range(1, len(rows)):
                deep += {"part": 1, "done": -1}.get(rows[number - 1].split(" ")[0], 0)
                cut = "; ".join(rows[:number])
                if number < 3 or deep > 0:
                    self.assert_refused(cut, number)
                else:
                    self.assert_read(cut)
                self.assert_refused(cut + "; ", number)
                self.assert_refused(cut + ";", number - 1)
                self.assert_refused(cut + " ", number - 1)

    def test_cut_behind_each_sign(self):
        for end in range(len(SALE) + 1):
            self.assert_as_told(SALE[:end])

    def test_a_done_too_few(self):
        for text, row in [(HEADER + "; part p", 6), (HEADER + "; part p; part q; done", 8),
                          (HEADER + "; part p; c ann may pay", 7), (HEADER + "; part p; part q", 7)]:
            self.assert_refused(text, row)
        rows = SALE.split("; ")
        self.assert_refused("; ".join(rows[:-1]), len(rows) - 1)
        self.assert_refused("; ".join(rows[:9] + rows[10:]), len(rows) - 1)

    def test_a_done_too_many(self):
        self.assert_refused(HEADER + "; done", 5)
        self.assert_refused(SALE + "; done", len(SALE.split("; ")))
        self.assert_refused(HEADER + "; part p; done; done", 7)
        self.assert_refused(HEADER + "; part p; done; done; part q", 7)
        self.assert_refused(HEADER + "; c ann may pay; done; c ann may pay", 6)


class WrongRows(Refusals):
    def test_the_first_rows(self):
        self.assert_refused("acts pay; parties ann; calm sale", 0)
        self.assert_refused("parties ann; calm sale; acts pay", 1)
        self.assert_refused("parties ann; parties bob; acts pay; calm sale", 1)
        self.assert_refused("parties ann; acts pay; acts send; calm sale", 2)
        self.assert_refused("parties ann; acts pay; c ann may pay", 2)
        self.assert_refused("parties ann; acts pay; let x be ann; calm sale", 2)
        self.assert_refused("parties ann; acts pay; part p; done; calm sale", 2)
        self.assert_refused("parties ann; acts pay; done", 2)
        self.assert_refused("parties; acts pay; calm sale", 0)
        self.assert_refused("parties ann; acts; calm sale", 1)
        self.assert_refused("parties ann; acts pay; calm", 2)

    def test_a_room_behind_a_row_that_is_none(self):
        for row in ["c ann may pay", "let x be ann", "part p; done"]:
            number = 5 + len(row.split("; "))
            self.assert_refused(HEADER + "; " + row + "; calm more", number)
        self.assert_refused(HEADER + "; part p; sore more; done", 6)

    def test_a_wrong_row_at_each_place(self):
        for text in [SALE, ONE_OF_EACH]:
            rows = text.split("; ")
            for place in range(len(rows) + 1):
                for wrong in NO_ROWS:
                    if place > 1 or wrong not in ["parties eve", "acts keep"]:
                        self.assert_refused("; ".join(rows[:place] + [wrong] + rows[place:]), place)
                    if place < len(rows) and form_of(wrong) is None:
                        self.assert_refused("; ".join(rows[:place] + [wrong] + rows[place + 1:]), place)

    def test_a_second_wrong_row_behind(self):
        rows = SALE.split("; ")
        for place in range(len(rows)):
            for second in range(place + 1, len(rows) + 1):
                wrong = list(rows)
                wrong.insert(second, "x")
                wrong[place] = "c ann may"
                self.assert_refused("; ".join(wrong), place)

    def test_a_wrong_row_in_a_text_that_ends_too_early(self):
        self.assert_refused(HEADER + "; part p; x; part q", 6)
        self.assert_refused("parties ann; x", 1)
        self.assert_refused("x; parties ann", 0)

    def test_blanks_and_semicolons(self):
        for text, row in [(" " + HEADER, 0), (HEADER + " ", 4), (HEADER + ";", 4), (HEADER + "; ", 5), ("; ", 0),
                          (HEADER.replace("; ", ";"), 0), (HEADER.replace("; ", ";  "), 1),
                          (HEADER.replace("; ", " ; "), 0), (HEADER.replace("; ", ", "), 0),
                          (HEADER.replace("; ", "\n"), 0), (HEADER.replace("; ", ";\n"), 0),
                          (HEADER.replace("; ", "; ; "), 1), (HEADER.replace("; ", ";; "), 0),
                          (HEADER.replace("pay send", "pay  send"), 1), (HEADER + "\n", 4), (HEADER + ".", 4)]:
            self.assert_refused(text, row)

    def test_a_blank_more_at_each_blank(self):
        for place in [place for place in range(len(SALE)) if SALE[place] == " "]:
            text = SALE[:place] + " " + SALE[place:]
            self.assert_refused(text, SALE[:place + 1].count("; "))

    def test_a_sign_less_a_sign_more_a_sign_otherwise(self):
        for place in range(len(SALE)):
            self.assert_as_told(SALE[:place] + SALE[place + 1:])
            for sign in [" ", ";", "x", "A", "7", "-"]:
                self.assert_as_told(SALE[:place] + sign + SALE[place:])
                self.assert_as_told(SALE[:place] + sign + SALE[place + 1:])

    def test_a_duty_of_any(self):
        self.assert_refused(HEADER + "; c any must pay by 3 else late", 5)

    def test_kept_words_and_long_names(self):
        self.assert_refused("parties rest; acts pay; calm sale", 0)
        self.assert_refused("parties ann; acts rest; calm sale", 1)
        self.assert_refused("parties ann; acts pay; calm whole", 2)
        self.assert_refused("parties ann any; acts pay; calm sale", 0)
        self.assert_refused("parties abcdefghi; acts pay; calm sale", 0)
        self.assert_read("parties abcdefgh; acts pay; calm sale")
        self.assert_refused(HEADER + "; whole ann may pay", 5)
        self.assert_refused(HEADER + "; part whole; done", 5)
        self.assert_refused(HEADER + "; part rest; done", 5)


class ToldAgain(Refusals):
    def test_in_the_header(self):
        self.assert_refused("parties ann ann; acts pay; calm sale", 0)
        self.assert_refused("parties ann bob ann; acts pay; calm sale", 0)
        self.assert_refused("parties ann; acts pay pay; calm sale", 1)
        self.assert_refused("parties ann; acts ann; calm sale", 1)
        self.assert_refused("parties ann bob; acts pay send bob; calm sale", 1)
        self.assert_refused("parties ann; acts pay; calm ann", 2)
        self.assert_refused("parties ann; acts pay; calm pay", 2)
        self.assert_refused("parties ann; acts pay; calm sale; calm sale", 3)
        self.assert_refused("parties ann; acts pay; calm sale; sore late; end sale", 4)
        self.assert_refused("parties ann; acts pay; calm sale; sore ann; end over", 3)

    def test_the_first_of_several(self):
        self.assert_refused("parties ann ann; acts ann; calm ann", 0)
        self.assert_refused("parties ann; acts ann; calm ann", 1)
        self.assert_refused("parties ann; acts pay; calm sale; sore sale; end sale", 3)

    def test_labels_and_parts(self):
        for first in ["x ann may pay", "x ann must pay by 1 else late", "x any may not pay else late",
                      "x bob by pay to sale"]:
            for second in ["x ann may pay", "x bob must send by 2 else over", "x any may not send else late",
                           "x any by pay to over", "part x", "part x in late"]:
                self.assert_refused(HEADER + "; " + first + "; " + second, 6)
                self.assert_refused(HEADER + "; part p; " + first + "; done; " + second, 8)
                self.assert_refused(HEADER + "; " + first + "; part p; part q; " + second, 8)
                self.assert_refused(HEADER + "; " + first + "; let y be ann; " + second + "; x", 7)

    def test_parts(self):
        self.assert_refused(HEADER + "; part x; done; part x; done", 7)
        self.assert_refused(HEADER + "; part x; part x; done; done", 6)
        self.assert_refused(HEADER + "; part x; x ann may pay; done", 6)
        self.assert_refused(HEADER + "; part x; done; x ann may pay", 7)
        self.assert_refused(HEADER + "; part x in late; part y; done; done; part y in over; done", 9)

    def test_a_name_of_a_row_that_could_not_stand_there(self):
        self.assert_refused(HEADER + "; x ann may pay; x ann may; x ann may pay", 6)


class Bounds(Refusals):
    def test_parties(self):
        for many in range(1, 8):
            text = "parties " + " ".join(names(many)) + "; acts pay; calm sale"
            if many <= 4:
                self.assertEqual(read(text).parties, names(many))
            else:
                self.assert_refused(text, 0)

    def test_acts(self):
        for many in range(1, 10):
            text = "parties ann; acts " + " ".join(names(many)) + "; calm sale"
            if many <= 6:
                self.assertEqual(read(text).acts, names(many))
            else:
                self.assert_refused(text, 1)

    def test_rooms(self):
        for many in range(1, 17):
            text = "parties ann; acts pay; sore " + "; sore ".join(names(many))
            if many <= 12:
                self.assertEqual(read(text).rooms, [("sore", name) for name in names(many)])
            else:
                self.assert_refused(text, 14)
            self.assert_refused(text + "; x", min(many + 2, 14))
            if many <= 12:
                self.assert_read(text + "; l ann may pay")

    def test_a_thirteenth_room_that_is_told_again(self):
        text = "parties ann; acts pay; sore " + "; sore ".join(names(12))
        self.assert_refused(text + "; calm ann", 14)
        self.assert_refused(text + "; calm", 14)

    def test_a_part_for_twelve_and_for_thirteen_rooms(self):
        self.assert_read(HEADER + "; part p in " + " ".join(names(12)) + "; done")
        self.assert_refused(HEADER + "; part p in " + " ".join(names(13)) + "; done", 5)
        self.assert_refused(HEADER + "; l ann may pay; part p in" + " late" * 13 + "; done", 6)

    def test_parts_within_one_another(self):
        for many in range(1, 10):
            text = "; ".join([HEADER] + ["part " + name for name in names(many)] + ["done"] * many)
            if many <= 6:
                self.assert_read(text)
                self.assertEqual(depth_of(read(text).whole), many)
            else:
                self.assert_refused(text, 11)
                self.assert_refused("; ".join(text.split("; ")[:5 + many]), 11)

    def test_a_part_behind_six_parts(self):
        six = ["part " + name for name in names(6)]
        self.assert_read("; ".join([HEADER] + six + ["done"] + ["part x", "done"] + ["done"] * 5))
        self.assert_refused("; ".join([HEADER] + six + ["l ann may pay", "part x", "done"] + ["done"] * 6), 12)
        self.assert_read("; ".join([HEADER] + six + ["done"] * 6 + ["part x", "done"]))
        self.assert_read("; ".join([HEADER] + six + ["l ann may pay", "let x be ann"] + ["done"] * 6))

    def test_ninety_rows(self):
        for many in range(83, 95):
            rows = HEADER.split("; ") + [name + " ann may pay" for name in names(many - 5)]
            self.assertEqual(len(rows), many)
            if many <= 90:
                self.assert_read("; ".join(rows))
            else:
                self.assert_refused("; ".join(rows), 90)

    def test_ninety_rows_with_lets_and_parts(self):
        for many in range(86, 96, 2):
            lets = ["let x be ann"] * (many - 5 - 4)
            rows = HEADER.split("; ") + ["part p", "part q"] + lets + ["done", "done"]
            self.assertEqual(len(rows), many)
            if many <= 90:
                self.assert_read("; ".join(rows))
            else:
                self.assert_refused("; ".join(rows), 90)

    def test_ninety_rows_with_a_part_open(self):
        rows = HEADER.split("; ") + ["part p"] + ["let x be ann"] * 84
        self.assert_refused("; ".join(rows), 90)
        self.assert_refused("; ".join(rows + ["done"]), 90)
        self.assert_refused("; ".join(rows[:-1]), 89)
        self.assert_read("; ".join(rows[:-1] + ["done"]))

    def test_a_wrong_row_near_the_ninetieth(self):
        rows = HEADER.split("; ") + ["let x be ann"] * 100
        for place in [88, 89, 90, 91, 100]:
            self.assert_refused("; ".join(rows[:place] + ["x"] + rows[place:]), min(place, 90))

    def test_a_very_long_text(self):
        self.assert_refused(HEADER + "; let x be ann" * 20000, 90)
        self.assert_refused("x" * 100000, 0)
        self.assert_refused("; " * 50000, 0)


class ManyTexts(Refusals):
    def test_texts_that_are_read(self):
        for seed in range(200):
            text = made_text(seed)
            self.assertIsNone(wrong_row(text))
            self.assert_read(text)

    def test_rows_put_in_left_out_and_put_otherwise(self):
        chance = random.Random(7)
        refused = 0
        for seed in range(1500):
            rows = made_text(seed).split("; ")
            others = made_text(seed + 5000).split("; ") + NO_ROWS
            for step in range(chance.randint(1, 3)):
                place = chance.randrange(len(rows) + 1)
                kind = chance.choice(["in", "out", "other", "again", "early"])
                if kind == "in":
                    rows.insert(place, chance.choice(others))
                elif kind == "again":
                    rows.insert(place, chance.choice(rows or [""]))
                elif kind == "early":
                    rows = rows[:max(place, 1)]
                elif place < len(rows):
                    rows[place:place + 1] = [] if kind == "out" else [chance.choice(others)]
            text = "; ".join(rows)
            refused += wrong_row(text) is not None
            self.assert_as_told(text)
        self.assertGreater(refused, 500)
        self.assertLess(refused, 1400)


if __name__ == "__main__":
    unittest.main()
