"""Promise 16: lets, parts and agreements, read and made by hand; and of promises 2 and 3 what goes for them."""

import unittest

from made_texts import HEADER, SALE, made_text, word
from pactway.clauses import Ban, Clause, Duty, Leave, Power, Row
from pactway.parts import Let, Pact, Part, clauses_of, depth_of, part_named, parts_of, shown
from pactway.reader import read


def by_hand():
    """The document's agreement, made without its text."""
    cure = Part("cure", ["late"], [Duty("d", "ann", "pay", 2, "over"), Power("e", "ann", "pay", "sale")])
    free = Part("open", ["sale", "over"], [Leave("g", "bob", "send")])
    whole = Part("whole", [], [Duty("c", "ann", "pay", 3, "late"), cure, Ban("f", "any", "send", "late"), free])
    return Pact(["ann", "bob"], ["pay", "send"], [("calm", "sale"), ("sore", "late"), ("end", "over")], whole)


def nested():
    """Parts a, with b (with c) and d in it, and e behind a; clauses and lets between."""
    c = Part("c", [], [Leave("k", "ann", "pay")])
    b = Part("b", ["sale"], [Leave("l", "ann", "pay"), c, Leave("m", "ann", "pay")])
    d = Part("d", [], [Let("x", "ann")])
    a = Part("a", [], [b, Leave("n", "ann", "pay"), d])
    e = Part("e", [], [Leave("o", "ann", "pay")])
    whole = Part("whole", [], [Leave("j", "ann", "pay"), a, Let("y", "bob"), Leave("p", "bob", "pay"), e])
    return whole, a, b, c, d, e


def tree(row):
    """A row with all that is in it, to be compared."""
    if isinstance(row, Part):
        return ("part", row.name, list(row.rooms), [tree(inner) for inner in row.rows])
    if isinstance(row, Let):
        return ("let", row.name, row.value)
    return (type(row).__name__, row.rows_told())


def all_of(pact):
    return (list(pact.parties), list(pact.acts), list(pact.rooms), tree(pact.whole))


def chain(many):
    inner = []
    for number in range(many, 0, -1):
        inner = [Part(word(number), [], inner)]
    return inner


class Kinds(unittest.TestCase):
    def test_lets_and_parts_are_rows_but_no_clauses(self):
        for kind in (Let, Part):
            self.assertTrue(issubclass(kind, Row))
            self.assertFalse(issubclass(kind, Clause))
        self.assertFalse(issubclass(Let, Part) or issubclass(Part, Let))

    def test_fields(self):
        let = Let("buyer", "ann")
        self.assertEqual((let.name, let.value), ("buyer", "ann"))
        part = Part("cure", ["late"], [let])
        self.assertEqual((part.name, part.rooms), ("cure", ["late"]))
        self.assertEqual(len(part.rows), 1)
        self.assertIs(part.rows[0], let)
        pact = Pact(["ann"], ["pay"], [("calm", "sale")], part)
        self.assertEqual((pact.parties, pact.acts, pact.rooms), (["ann"], ["pay"], [("calm", "sale")]))
        self.assertIs(pact.whole, part)
        for things in (part.rooms, part.rows, pact.parties, pact.acts, pact.rooms):
            self.assertIs(type(things), list)

    def test_arguments_bear_the_names_of_the_fields(self):
        let = Let(value="ann", name="buyer")
        part = Part(rows=[let], rooms=["late"], name="cure")
        pact = Pact(whole=part, rooms=[("calm", "sale")], acts=["pay"], parties=["ann"])
        self.assertEqual(all_of(pact),
                         (["ann"], ["pay"], [("calm", "sale")], ("part", "cure", ["late"], [("let", "buyer", "ann")])))


class Told(unittest.TestCase):
    def test_a_let(self):
        self.assertEqual(Let("buyer", "ann").rows_told(), ["let buyer be ann"])

    def test_a_part_without_rows(self):
        self.assertEqual(Part("cure", [], []).rows_told(), ["part cure", "done"])
        self.assertEqual(Part("cure", ["late"], []).rows_told(), ["part cure in late", "done"])
        self.assertEqual(Part("cure", ["late", "over", "late"], []).rows_told(),
                         ["part cure in late over late", "done"])

    def test_parts_within_parts(self):
        whole = nested()[0]
        self.assertEqual(whole.rows_told(), [
            "part whole", "j ann may pay", "part a", "part b in sale", "l ann may pay", "part c", "k ann may pay",
            "done", "m ann may pay", "done", "n ann may pay", "part d", "let x be ann", "done", "done",
            "let y be bob", "p bob may pay", "part e", "o ann may pay", "done", "done"])
        self.assertEqual(nested()[3].rows_told(), ["part c", "k ann may pay", "done"])

    def test_clauses_of_each_sort(self):
        rows = [Duty("c", "ann", "pay", 3, "late"), Ban("f", "any", "send", "late"), Leave("g", "bob", "send"),
                Power("e", "ann", "pay", "sale"), Let("x", "ann")]
        self.assertEqual(Part("p", [], rows).rows_told(),
                         ["part p", "c ann must pay by 3 else late", "f any may not send else late",
                          "g bob may send", "e ann by pay to sale", "let x be ann", "done"])

    def test_told_rows_are_the_askers_own(self):
        part = nested()[0]
        wanted = list(part.rows_told())
        told = part.rows_told()
        told.clear()
        told.append("x")
        self.assertEqual(part.rows_told(), wanted)
        let = Let("x", "ann")
        let.rows_told().append("y")
        self.assertEqual(let.rows_told(), ["let x be ann"])


class Within(unittest.TestCase):
    def names(self, parts):
        self.assertIs(type(parts), list)
        return [part.name for part in parts]

    def labels(self, clauses):
        self.assertIs(type(clauses), list)
        return [clause.label for clause in clauses]

    def test_clauses_in_the_order_of_the_text(self):
        whole, a, b, c, d, e = nested()
        self.assertEqual(self.labels(clauses_of(whole)), list("jlkmnpo"))
        self.assertEqual(self.labels(clauses_of(a)), list("lkmn"))
        self.assertEqual(self.labels(clauses_of(b)), list("lkm"))
        self.assertEqual(self.labels(clauses_of(c)), list("k"))
        self.assertEqual(self.labels(clauses_of(d)), [])
        self.assertEqual(self.labels(clauses_of(e)), list("o"))
        self.assertEqual(clauses_of(Part("p", [], [])), [])

    def test_clauses_of_each_sort(self):
        self.assertEqual([clause.sort_word() for clause in clauses_of(by_hand().whole)],
                         ["must", "must", "power", "ban", "may"])
        rows = by_hand().whole.rows
        self.assertIs(clauses_of(Part("p", [], rows))[0], rows[0])

    def test_parts_in_the_order_of_the_text(self):
        whole, a, b, c, d, e = nested()
        self.assertEqual(self.names(parts_of(whole)), ["whole", "a", "b", "c", "d", "e"])
        self.assertEqual(self.names(parts_of(a)), ["a", "b", "c", "d"])
        self.assertEqual(self.names(parts_of(b)), ["b", "c"])
        self.assertEqual(self.names(parts_of(d)), ["d"])
        for told, part in zip(parts_of(whole), [whole, a, b, c, d, e]):
            self.assertIs(told, part)

    def test_depth(self):
        whole, a, b, c, d, e = nested()
        self.assertEqual([depth_of(part) for part in (whole, a, b, c, d, e)], [3, 2, 1, 0, 0, 0])
        self.assertEqual(depth_of(Part("p", [], [Let("x", "y"), Leave("l", "a", "b")])), 0)
        deeper_first = Part("p", [], [Part("q", [], [Part("r", [], [])]), Part("s", [], [])])
        deeper_last = Part("p", [], [Part("s", [], []), Part("q", [], [Part("r", [], [])])])
        self.assertEqual((depth_of(deeper_first), depth_of(deeper_last)), (2, 2))

    def test_depth_of_a_long_chain(self):
        for many in range(12):
            self.assertEqual(depth_of(Part("whole", [], chain(many))), many)
            self.assertEqual(len(parts_of(Part("whole", [], chain(many)))), many + 1)

    def test_part_named(self):
        whole, a, b, c, d, e = nested()
        pact = Pact(["ann"], ["pay"], [("calm", "sale")], whole)
        for part in (whole, a, b, c, d, e):
            self.assertIs(part_named(pact, part.name), part)
        for name in ["f", "", "ann", "pay", "sale", "k", "x", "y", "A", "wholes"]:
            self.assertIsNone(part_named(pact, name))

    def test_part_named_tells_the_first_one(self):
        first = Part("same", ["sale"], [])
        second = Part("same", ["late"], [])
        whole = Part("whole", [], [Part("p", [], [first]), second])
        self.assertIs(part_named(Pact(["ann"], ["pay"], [("calm", "sale")], whole), "same"), first)
        around = Part("same", [], [first])
        whole = Part("whole", [], [around, second])
        self.assertIs(part_named(Pact(["ann"], ["pay"], [("calm", "sale")], whole), "same"), around)

    def test_lists_are_the_askers_own(self):
        whole = nested()[0]
        was = tree(whole)
        for told in (clauses_of(whole), parts_of(whole)):
            told.reverse()
            told.pop()
            told.append(None)
        clauses_of(Part("p", [], [])).append(None)
        self.assertEqual(tree(whole), was)
        self.assertEqual(self.labels(clauses_of(whole)), list("jlkmnpo"))
        self.assertEqual(self.names(parts_of(whole)), ["whole", "a", "b", "c", "d", "e"])
        self.assertEqual(clauses_of(Part("p", [], [])), [])


class OwnLists(unittest.TestCase):
    def test_a_part_keeps_lists_of_its_own(self):
        rooms, rows = ["late"], [Let("x", "ann")]
        part = Part("cure", rooms, rows)
        was = tree(part)
        rooms.append("over")
        rooms[0] = "sale"
        rows.append(Let("y", "bob"))
        rows[0] = Leave("l", "ann", "pay")
        self.assertEqual(tree(part), was)
        self.assertEqual(part.rows_told(), ["part cure in late", "let x be ann", "done"])

    def test_two_parts_of_one_list(self):
        things = []
        one, other = Part("a", things, things), Part("b", things, things)
        self.assertIsNot(one.rooms, one.rows)
        self.assertIsNot(one.rows, other.rows)
        things.append("late")
        self.assertEqual((one.rooms, one.rows, other.rooms, other.rows), ([], [], [], []))

    def test_a_pact_keeps_lists_of_its_own(self):
        parties, acts, rooms = ["ann"], ["pay"], [("calm", "sale")]
        pact = Pact(parties, acts, rooms, Part("whole", [], []))
        parties.append("bob")
        acts[0] = "send"
        rooms.insert(0, ("end", "over"))
        self.assertEqual((pact.parties, pact.acts, pact.rooms), (["ann"], ["pay"], [("calm", "sale")]))
        self.assertEqual(shown(pact), "parties ann; acts pay; calm sale")
        rooms.clear()
        parties.clear()
        self.assertEqual(shown(pact), "parties ann; acts pay; calm sale")

    def test_nothing_handed_in_is_changed(self):
        parties, acts, rooms = ["bob", "ann"], ["send", "pay"], [("sore", "late"), ("calm", "sale")]
        named, rows = ["late", "late"], [Leave("l", "ann", "pay"), Let("x", "ann")]
        pact = Pact(parties, acts, rooms, Part("whole", [], [Part("p", named, rows)]))
        shown(pact)
        clauses_of(pact.whole)
        parts_of(pact.whole)
        depth_of(pact.whole)
        part_named(pact, "p")
        self.assertEqual((parties, acts), (["bob", "ann"], ["send", "pay"]))
        self.assertEqual(rooms, [("sore", "late"), ("calm", "sale")])
        self.assertEqual(named, ["late", "late"])
        self.assertEqual([tree(row) for row in rows], [("Leave", ["l ann may pay"]), ("let", "x", "ann")])


class Shown(unittest.TestCase):
    def test_made_by_hand(self):
        self.assertEqual(shown(by_hand()), SALE)

    def test_the_header_alone(self):
        pact = Pact(["ann", "bob"], ["pay", "send"], [("calm", "sale"), ("sore", "late"), ("end", "over")],
                    Part("whole", [], []))
        self.assertEqual(shown(pact), HEADER)

    def test_read_and_shown(self):
        for text in [SALE, HEADER, "parties a; acts b; end c", HEADER + "; part p; done",
                     HEADER + "; let x be y; let x be y; part p in q q; done; l any may m"]:
            with self.subTest(text=text):
                self.assertEqual(shown(read(text)), text)

    def test_shown_and_read(self):
        self.assertEqual(all_of(read(shown(by_hand()))), all_of(by_hand()))
        whole = nested()[0]
        pact = Pact(["ann", "bob"], ["pay"], [("calm", "sale")], whole)
        self.assertEqual(all_of(read(shown(pact))), all_of(pact))

    def test_many_texts(self):
        for seed in range(300):
            text = made_text(seed)
            with self.subTest(text=text):
                pact = read(text)
                self.assertEqual(shown(pact), text)
                self.assertEqual(all_of(read(shown(pact))), all_of(pact))

    def test_beyond_the_bounds_nothing_is_refused(self):
        names = [word(number) for number in range(120)]
        rows = chain(8) + [Leave(name, "any", "pay") for name in names]
        pact = Pact(names[:5], names[5:12], [("calm", name) for name in names[12:26]], Part("whole", [], rows))
        told = shown(pact).split("; ")
        self.assertEqual(told[0], "parties " + " ".join(names[:5]))
        self.assertEqual(told[1], "acts " + " ".join(names[5:12]))
        self.assertEqual(told[2:16], ["calm " + name for name in names[12:26]])
        self.assertEqual(len(told), 2 + 14 + 16 + 120)
        self.assertEqual(depth_of(pact.whole), 8)
        self.assertEqual(len(clauses_of(pact.whole)), 120)


class TheWhole(unittest.TestCase):
    def test_it_is_a_part(self):
        whole = read(SALE).whole
        self.assertIs(type(whole), Part)
        self.assertEqual((whole.name, whole.rooms), ("whole", []))
        self.assertEqual(whole.rows_told(), ["part whole"] + SALE.split("; ")[5:] + ["done"])

    def test_it_is_named_among_the_parts(self):
        pact = read(SALE)
        self.assertIs(part_named(pact, "whole"), pact.whole)
        self.assertEqual([part.name for part in parts_of(pact.whole)], ["whole", "cure", "open"])

    def test_an_agreement_without_rows(self):
        whole = read(HEADER).whole
        self.assertEqual((whole.name, whole.rooms, whole.rows), ("whole", [], []))
        self.assertEqual((clauses_of(whole), len(parts_of(whole)), depth_of(whole)), ([], 1, 0))


if __name__ == "__main__":
    unittest.main()
