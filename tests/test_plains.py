"""Promises 24 and 25: what an agreement means told by its rows alone, and the watcher of a duty; and of promises 2, 3,
4 and 17 what goes for them."""

import itertools
import random
import unittest

from made_texts import HEADER, SALE, made_text
from pactway.clauses import Ban, Duty, Power
from pactway.courses import One
from pactway.errors import CalmRoom, NoDeed, NoName, PactError
from pactway.flats import flat
from pactway.histories import gone
from pactway.parts import Pact, Part, shown
from pactway.plains import plain, watcher
from pactway.reader import read

TWENTY = 10 ** 20 - 1
DUTY = ("c", "must", "ann", "pay", 3, "late", ["sale", "late"], 0)


def plain_of(rows, acts):
    return plain(read(HEADER + "; " + rows), acts.split(" "))


class Count(unittest.TestCase):
    def setUp(self):
        self.count = watcher(DUTY)[0]

    def test_a_tuple_of_two(self):
        self.assertIsInstance(watcher(DUTY), tuple)
        self.assertEqual(len(watcher(DUTY)), 2)

    def test_not_open(self):
        for who, act, free in itertools.product(["ann", "bob"], ["pay", "send", "rest"], [True, False]):
            self.assertEqual(self.count(0, who, act, free), (0, False))

    def test_at_another_partys_turn(self):
        for left, act, free in itertools.product([1, 2, 3], ["pay", "send", "rest"], [True, False]):
            self.assertEqual(self.count(left, "bob", act, free), (left, False))

    def test_kept(self):
        for left in [1, 2, 3]:
            self.assertEqual(self.count(left, "ann", "pay", True), (0, False))

    def test_another_act_or_a_rest(self):
        for act, free in itertools.product(["send", "rest"], [True, False]):
            self.assertEqual([self.count(left, "ann", act, free) for left in [3, 2, 1]],
                             [(2, False), (1, False), (0, True)])

    def test_its_act_where_it_was_barred(self):
        self.assertEqual([self.count(left, "ann", "pay", False) for left in [3, 2, 1]],
                         [(2, False), (1, False), (0, True)])

    def test_kinds(self):
        for left, act in itertools.product([0, 1, 2], ["pay", "rest"]):
            told = self.count(left, "ann", act, True)
            self.assertIsInstance(told, tuple)
            self.assertIs(type(told[0]), int)
            self.assertIs(type(told[1]), bool)

    def test_twenty_figures(self):
        count = watcher(("c", "must", "ann", "pay", TWENTY, "late", [], 0))[0]
        self.assertEqual(count(TWENTY, "ann", "rest", True), (TWENTY - 1, False))
        self.assertEqual(count(TWENTY, "bob", "pay", True), (TWENTY, False))
        self.assertEqual(count(TWENTY, "ann", "pay", True), (0, False))


class Opens(unittest.TestCase):
    def setUp(self):
        self.opens = watcher(DUTY)[1]

    def test_open_already(self):
        for left, was, now in itertools.product([1, 2, 3], [None, "sale", "late", "shop"], ["sale", "late", "shop"]):
            self.assertEqual(self.opens(left, was, now), left)

    def test_entered(self):
        for was, now in itertools.product([None, "shop", "over"], ["sale", "late"]):
            self.assertEqual(self.opens(0, was, now), 3)

    def test_in_force_ahead_too(self):
        for was, now in itertools.product(["sale", "late"], repeat=2):
            self.assertEqual(self.opens(0, was, now), 0)

    def test_not_in_force(self):
        for was in [None, "shop", "sale", "late", "store"]:
            self.assertEqual(self.opens(0, was, "shop"), 0)
        self.assertEqual(watcher(DUTY[:6] + ([], 0))[1](0, None, "sale"), 0)

    def test_twenty_figures(self):
        self.assertEqual(watcher(DUTY[:4] + (TWENTY, "late", ["sale"], 2))[1](0, None, "sale"), TWENTY)


class Watchers(unittest.TestCase):
    def test_the_list_of_rooms_changed_behind_the_making(self):
        for change in [lambda rooms: rooms.clear(), lambda rooms: rooms.append("shop"), lambda rooms: rooms.pop(0)]:
            rooms = ["sale", "late"]
            count, opens = watcher(("c", "must", "ann", "pay", 3, "late", rooms, 0))
            change(rooms)
            self.assertEqual([opens(0, was, now) for was, now in [(None, "sale"), (None, "shop"), ("shop", "sale"),
                                                                  ("sale", "late"), ("late", "shop")]],
                             [3, 0, 3, 0, 0])

    def test_the_duty_stays_as_it_is(self):
        duty = flat(read(SALE))[0]
        count, opens = watcher(duty)
        count(3, "ann", "pay", True)
        opens(0, None, "sale")
        self.assertEqual(duty, ("c", "must", "ann", "pay", 3, "late", ["sale", "late", "over"], 0))

    def test_nothing_is_kept_of_how_they_were_asked(self):
        count, opens = watcher(DUTY)
        asked = [(left, who, act, free) for left in range(4) for who in ["ann", "bob"] for act in ["pay", "rest"]
                 for free in [True, False]]
        moved = [(left, was, now) for left in range(4) for was in [None, "sale", "shop"] for now in ["sale", "shop"]]
        first = [[watcher(DUTY)[0](*things) for things in asked], [watcher(DUTY)[1](*things) for things in moved]]
        self.assertEqual([[count(*things) for things in asked], [opens(*things) for things in moved]], first)
        backwards = [[opens(*things) for things in reversed(moved)], [count(*things) for things in reversed(asked)]]
        self.assertEqual(backwards, [first[1][::-1], first[0][::-1]])

    def test_two_watchers_beside_one_another(self):
        one, other = watcher(DUTY), watcher(("d", "must", "bob", "send", 5, "over", ["shop"], 1))
        self.assertEqual([one[0](2, "ann", "pay", True), other[0](2, "ann", "pay", True)], [(0, False), (2, False)])
        self.assertEqual([one[1](0, None, "shop"), other[1](0, None, "shop")], [0, 5])

    def test_as_a_course_counts(self):
        course = One(read(HEADER + "; part p in late; a ann must pay by 3 else late; done; "
                                   "b ann may not pay else over; part q in late; c ann may pay; "
                                   "d any by send to late; done"))
        count, opens = watcher(course.duties[0])
        for room, turn, left, act in itertools.product(["sale", "late"], [0, 1], range(4), course.choices()):
            stand = (room, turn, (left,))
            behind, broken = course.after(stand, act)
            who = course.mover(stand)
            counted = count(left, who, act, not course.bars(stand, who, act))
            self.assertEqual(counted[1], (who, "a") in broken)
            if course.mark(behind) != "end":
                self.assertEqual(opens(counted[0], room, behind[0]), behind[2][0])


class Plain(unittest.TestCase):
    def test_no_acts(self):
        self.assertEqual(plain(read(SALE), []), [])

    def test_the_documents_agreement(self):
        self.assertEqual(plain(read(SALE), ["pay", "send", "send", "send", "pay", "rest"]), [
            ("sale", []), ("sale", []), ("late", [("ann", "f")]), ("late", [("bob", "f")]), ("sale", []), ("sale", [])])
        self.assertEqual(plain(read(SALE), ["rest"] * 10), [
            ("sale", []), ("sale", []), ("sale", []), ("sale", []), ("late", [("ann", "c")]), ("late", []),
            ("late", []), ("late", []), ("over", [("ann", "d")]), ("over", [])])

    def test_kinds(self):
        for told in plain(read(SALE), ["rest"] * 6):
            self.assertIsInstance(told, tuple)
            self.assertIsInstance(told[1], list)

    def test_the_word_that_holds(self):
        for rows, room in [
            ("a ann by pay to late", "late"), ("a ann by pay to late; b ann may pay", "sale"),
            ("part p; a any by pay to late; done; b ann may pay", "late"), ("a bob by pay to late", "sale"),
            ("a ann by send to late", "sale"), ("part p in late; a ann by pay to late; done", "sale"),
            ("a ann may not pay else late; b any may pay", "sale"),
            ("b any may pay; a ann may not pay else late", "late"),
            ("part p in sale; part q in late; a ann by pay to over; done; b ann by pay to late; done", "late"),
        ]:
            self.assertEqual(plain_of(rows, "pay")[0][0], room, rows)

    def test_an_end(self):
        rows = "a any by pay to over; b any may not send else over; c bob must pay by 1 else late"
        self.assertEqual(plain_of(rows, "pay pay send rest rest"), [("over", [])] * 5)
        self.assertEqual(plain_of(rows, "send rest"), [("over", [("ann", "b")]), ("over", [])])
        ended = read("parties ann; acts pay; end over; sore late; a ann must pay by 1 else late; b ann by pay to late")
        self.assertEqual(plain(ended, ["rest", "pay", "rest"]), [("over", [])] * 3)

    def test_several_broken_and_opened_anew(self):
        rows = ("part p in late; a ann must pay by 2 else late; b bob must pay by 1 else over; done; "
                "c ann must send by 1 else late; d ann may not pay else late; e bob by send to sale")
        self.assertEqual(plain_of(rows, "pay pay pay pay pay"), [
            ("late", [("ann", "d"), ("ann", "c")]), ("late", []), ("late", [("ann", "d")]), ("late", []),
            ("late", [("ann", "d"), ("ann", "a")])])
        self.assertEqual(plain_of(rows, "rest rest"), [("late", [("ann", "c")]), ("over", [("bob", "b")])])

    def test_kept_and_opened_anew(self):
        rows = ("part p in late; a ann must pay by 2 else over; done; b ann by pay to late; c bob by send to sale")
        self.assertEqual(plain_of(rows, "pay send pay rest rest rest rest"), [
            ("late", []), ("sale", []), ("late", []), ("late", []), ("late", []), ("late", []),
            ("over", [("ann", "a")])])

    def test_names_bound_anew(self):
        rows = "let buyer be ann; let ann be bob; part p; let pay be send; a buyer may not pay else late; done; " \
               "b ann may not pay else over"
        self.assertEqual(plain_of(rows, "pay send"), [("sale", []), ("sale", [])])
        self.assertEqual(plain_of(rows, "send pay"), [("late", [("ann", "a")]), ("over", [("bob", "b")])])

    def test_twenty_figures(self):
        rows = "a ann must pay by 99999999999999999999 else late"
        self.assertEqual(plain_of(rows, "rest " * 399 + "rest"), [("sale", [])] * 400)

    def test_made_by_hand(self):
        rows = [Duty("a", "ann", "pay", 1, "late"), Part("p", ["late"], [Power("b", "any", "pay", "sale")]),
                Ban("c", "any", "send", "late")]
        pact = Pact(["ann"], ["pay", "send"], [("calm", "sale"), ("sore", "late")], Part("whole", [], rows))
        self.assertEqual(plain(pact, ["send", "pay", "pay"]),
                         [("late", [("ann", "c"), ("ann", "a")]), ("sale", []), ("sale", [])])


class Refused(unittest.TestCase):
    def assert_refused(self, rows, acts, error, word):
        pact = read(HEADER + "; " + rows)
        with self.assertRaises(PactError) as caught:
            plain(pact, acts)
        self.assertEqual((type(caught.exception), caught.exception.word), (error, word))

    def test_names_are_looked_at_first(self):
        for rows, error, word in [("a eve may pay", NoName, "eve"), ("a any may not pay else sale", CalmRoom, "sale"),
                                  ("part p in shop; done", NoName, "shop"), ("let x be y", NoName, "y"),
                                  ("a ann may keep; b ann must pay by 1 else sale", NoName, "keep"),
                                  ("a ann must pay by 1 else sale; b ann may keep", CalmRoom, "sale")]:
            for acts in [[], ["pay"], ["store"], ["pay", "store"]]:
                self.assert_refused(rows, acts, error, word)

    def test_an_act_that_is_no_choice(self):
        for act in ["store", "", "ann", "sale", "a", "any", "rest ", "Pay"]:
            for ahead in [[], ["pay"], ["send", "rest", "send"]]:
                self.assert_refused("a any may not send else late", ahead + [act, "pay", "other"], NoDeed, act)

    def test_in_an_end(self):
        self.assert_refused("a any by pay to over", ["pay", "rest", "store"], NoDeed, "store")

    def test_names_of_lets_are_no_acts(self):
        self.assert_refused("let x be pay; a ann may x", ["x"], NoDeed, "x")


class TheAskersOwn(unittest.TestCase):
    def test_what_is_handed_in_stays(self):
        pact, acts = read(SALE), ["send", "send", "rest"]
        told = plain(pact, acts)
        for row in told:
            row[1].append("x")
        told.clear()
        self.assertEqual((shown(pact), acts), (SALE, ["send", "send", "rest"]))
        wanted = [("late", [("ann", "f")]), ("late", [("bob", "f")]), ("late", [])]
        told = plain(pact, acts)
        acts.clear()
        pact.whole.rows.clear()
        pact.rooms.clear()
        self.assertEqual(told, wanted)

    def test_a_refusal_changes_nothing(self):
        pact, acts = read(SALE), ["send", "store"]
        for again in range(2):
            with self.assertRaises(NoDeed):
                plain(pact, acts)
        self.assertEqual((shown(pact), acts), (SALE, ["send", "store"]))


class ManyTexts(unittest.TestCase):
    def test_beside_the_course(self):
        seen = {"refused": 0, "broken": 0, "moved": 0, "several": 0, "four hundred": 0}
        for seed in range(1500):
            chance = random.Random(seed)
            pact = read(made_text(seed))
            acts = [chance.choice(pact.acts + ["rest"]) for count in range(chance.choice([1, 10, 40]))]
            if seed % 50 == 0:
                acts = (acts * 400)[:400]
            with self.subTest(text=shown(pact), acts=acts):
                try:
                    course = One(pact)
                except (NoName, CalmRoom) as refusal:
                    with self.assertRaises(type(refusal)) as caught:
                        plain(pact, acts + ["store"])
                    self.assertEqual(caught.exception.word, refusal.word)
                    seen["refused"] += 1
                    continue
                told = plain(pact, acts)
                self.assertEqual(told, [(stand[0], broken) for stand, broken in gone(course, acts)])
                seen["moved"] += len({room for room, broken in told}) > 1
                seen["broken"] += any(broken for room, broken in told)
                seen["several"] += any(len(broken) > 1 for room, broken in told)
                seen["four hundred"] += len(acts) == 400
        for many in seen.values():
            self.assertGreater(many, 10, seen)


if __name__ == "__main__":
    unittest.main()
