"""Promise 27: slack, and many rests gone at once; and of promises 2, 3 and 4 what goes for them."""

import itertools
import random
import unittest

from made_texts import HEADER, SALE, made_text, word
from pactway.courses import Course, One
from pactway.errors import CalmRoom, NoName, TooMany
from pactway.parts import shown
from pactway.reader import read
from pactway.rests import rested, slack

GREAT = 10 ** 59 + 7
TWENTY = 10 ** 20 - 1
# Trouble that never ends: each breach leads to the room of the other duty.
ROUND = ("parties ann bob; acts pay; sore late; sore worse; part p in late; a ann must pay by 2 else worse; done; "
         "part q in worse; b ann must pay by 3 else late; done")


def falling(many):
    """A duty of each number from 1 on, so that at each of the first turns one is broken, and none opens anew."""
    rows = [word(number) + " ann must pay by " + str(number) + " else late" for number in range(1, many + 1)]
    return One(read("; ".join(["parties ann; acts pay; sore late"] + rows)))


def made_trouble(chance):
    """A text with duties in sore rooms that lead to one another, so that rests mostly break much."""
    parties = ["ann", "bob", "eve"][:chance.randint(1, 3)]
    rooms = ["late", "worse", "bad", "ill"][:chance.randint(2, 4)]
    rows = ["parties " + " ".join(parties), "acts pay"] + ["sore " + room for room in rooms] + ["end over"]
    for number in range(chance.randint(1, 8)):
        rows.append("part p" + word(number) + " in " + " ".join(chance.sample(rooms, chance.randint(1, 2))))
        falls = chance.choice(rooms * 8 + ["over"])
        turns = str(chance.randint(1, 4))
        rows.append(" ".join([word(number), chance.choice(parties), "must pay by", turns, "else", falls]))
        rows.append("done")
    return "; ".join(rows)


class Clock(Course):
    """A course of another class: its stand is (turn, left), and its one duty, of bob, opens anew as it is broken."""

    def first(self, turn=0):
        return (turn, 5)

    def turn_of(self, stand):
        return stand[0]

    def open_duties(self, stand):
        return [("tick", "bob", "pay", stand[1])]

    def after(self, stand, act):
        left = stand[1] - (self.mover(stand) == "bob")
        following = (stand[0] + 1) % len(self.parties)
        return ((following, left or 5), [] if left else [("bob", "tick")])

    def waited(self, stand, many):
        for count in range(many):
            stand = self.after(stand, "rest")[0]
        return stand


def stepped(course, stand, many):
    """The same as rested, one rest behind the other."""
    breaks = []
    for turn in range(many):
        stand, broken = course.after(stand, "rest")
        breaks += [(turn, who, label) for who, label in broken]
    if len({turn for turn, who, label in breaks}) > 60:
        return None
    return (stand, breaks)


def told(course, stand, many):
    try:
        return rested(course, stand, many)
    except TooMany:
        return None


class Slack(unittest.TestCase):
    def test_no_duty_is_open(self):
        course = One(read(SALE))
        for room, turn in itertools.product(["sale", "late", "over"], [0, 1]):
            self.assertIsNone(slack(course, (room, turn, (0, 0))))
        self.assertIsNone(slack(One(read(HEADER)), ("sale", 0, ())))

    def test_the_idle_course(self):
        self.assertEqual([slack(Course(["ann", "bob"], ["pay"]), turn) for turn in [0, 1]], [None, None])

    def test_the_number_of_rests(self):
        course = One(read(SALE))
        for turn, left, rests in [(0, (1, 0), 0), (1, (1, 0), 1), (0, (2, 0), 2), (1, (2, 0), 3), (0, (3, 0), 4),
                                  (1, (3, 0), 5), (0, (3, 2), 2), (1, (3, 1), 1), (0, (0, 2), 2), (1, (0, 1), 1)]:
            for room in ["sale", "late"]:
                self.assertEqual(slack(course, (room, turn, left)), rests)

    def test_each_bearer(self):
        course = One(read("parties ann bob eve; acts pay; sore late; a ann must pay by 9 else late; "
                          "b bob must pay by 9 else late; c eve must pay by 9 else late"))
        for turn, left, rests in [(0, (1, 1, 1), 0), (1, (1, 1, 1), 0), (2, (1, 1, 1), 0), (0, (0, 1, 1), 1),
                                  (0, (0, 0, 1), 2), (1, (1, 0, 0), 2), (2, (1, 0, 0), 1), (2, (0, 1, 0), 2),
                                  (1, (0, 0, 4), 10), (2, (4, 3, 9), 8), (1, (2, 9, 3), 5), (0, (9, 9, 9), 24)]:
            self.assertEqual(slack(course, ("late", turn, left)), rests)

    def test_one_party(self):
        course = One(read("parties ann; acts pay; sore late; a ann must pay by 9 else late"))
        self.assertEqual([slack(course, ("late", 0, (left,))) for left in [1, 2, 9, 0]], [0, 1, 8, None])

    def test_twenty_figures(self):
        course = One(read(HEADER + "; a bob must pay by 99999999999999999999 else late"))
        self.assertEqual(slack(course, course.first()), 1 + 2 * (TWENTY - 1))

    def test_the_kind(self):
        self.assertIs(type(slack(One(read(SALE)), ("sale", 0, (1, 0)))), int)

    def test_a_course_of_another_class(self):
        course = Clock(["ann", "bob", "eve"], ["pay"])
        self.assertEqual([slack(course, (turn, 2)) for turn in range(3)], [4, 3, 5])


class Rested(unittest.TestCase):
    def setUp(self):
        self.sale = One(read(SALE))

    def test_no_rests(self):
        for stand in [("sale", 0, (3, 0)), ("late", 1, (0, 1)), ("sale", 0, (1, 1)), ("over", 0, (0, 0))]:
            self.assertEqual(rested(self.sale, stand, 0), (stand, []))
        self.assertEqual(rested(Course(["ann", "bob"], []), 1, 0), (1, []))
        self.assertEqual(rested(One(read(ROUND)), ("late", 0, (1, 1)), 0), (("late", 0, (1, 1)), []))

    def test_the_documents_agreement(self):
        wanted = [(("sale", 1, (2, 0)), []), (("sale", 0, (2, 0)), []), (("sale", 1, (1, 0)), []),
                  (("sale", 0, (1, 0)), []), (("late", 1, (0, 2)), [(4, "ann", "c")]),
                  (("late", 0, (0, 2)), [(4, "ann", "c")]), (("late", 1, (0, 1)), [(4, "ann", "c")]),
                  (("late", 0, (0, 1)), [(4, "ann", "c")]), (("over", 1, (0, 0)), [(4, "ann", "c"), (8, "ann", "d")]),
                  (("over", 0, (0, 0)), [(4, "ann", "c"), (8, "ann", "d")])]
        self.assertEqual([rested(self.sale, self.sale.first(), many) for many in range(1, 11)], wanted)
        self.assertEqual(rested(self.sale, self.sale.first(), 10 ** 59),
                         (("over", 0, (0, 0)), [(4, "ann", "c"), (8, "ann", "d")]))

    def test_rests_that_break_nothing(self):
        self.assertEqual(rested(self.sale, ("late", 1, (0, 0)), GREAT), (("late", 0, (0, 0)), []))
        self.assertEqual(rested(self.sale, ("over", 1, (0, 0)), 10 ** 60 - 1), (("over", 0, (0, 0)), []))
        self.assertEqual(rested(One(read(HEADER)), ("sale", 0, ()), 10 ** 60), (("sale", 0, ()), []))

    def test_just_the_slack_and_one_more(self):
        course = One(read(HEADER + "; a bob must pay by 99999999999999999999 else late"))
        free = slack(course, course.first())
        self.assertEqual(rested(course, course.first(), free), (("sale", 1, (1,)), []))
        self.assertEqual(rested(course, course.first(), free + 1), (("late", 0, (0,)), [(free, "bob", "a")]))
        self.assertEqual(rested(course, course.first(), GREAT), (("late", GREAT % 2, (0,)), [(free, "bob", "a")]))

    def test_breaks_of_sixty_figures(self):
        course = One(read("parties ann bob; acts pay; sore late; sore worse; a ann must pay by 1 else worse; "
                          "part p in worse; b bob must pay by 99999999999999999999 else late; done"))
        self.assertEqual(rested(course, course.first(), 10 ** 59),
                         (("late", 0, (0, 0)), [(0, "ann", "a"), (1 + 2 * (TWENTY - 1), "bob", "b")]))

    def test_several_broken_at_one_turn(self):
        course = One(read(HEADER + "; a ann must pay by 2 else late; b bob must pay by 1 else over; "
                                   "c ann must send by 2 else over; part p in late; d ann must pay by 1 else over; "
                                   "done"))
        self.assertEqual(rested(course, ("sale", 0, (2, 0, 2, 0)), 7),
                         (("over", 1, (0, 0, 0, 0)), [(2, "ann", "a"), (2, "ann", "c"), (4, "ann", "d")]))

    def test_the_idle_course(self):
        course = Course(["ann", "bob", "eve"], ["pay"])
        for many in [1, 2, 3, 100, GREAT, 10 ** 60 - 1]:
            self.assertEqual(rested(course, 1, many), ((1 + many) % 3, []))

    def test_a_course_of_another_class(self):
        course = Clock(["ann", "bob"], ["pay"])
        for many in [0, 1, 5, 9, 10, 11, 599, 600, 601, 609]:
            self.assertEqual(rested(course, course.first(), many), stepped(course, course.first(), many))
        with self.assertRaises(TooMany):
            rested(course, course.first(), 610)

    def test_kinds(self):
        answer = rested(self.sale, self.sale.first(), 9)
        self.assertEqual([type(answer), type(answer[1]), type(answer[1][0])], [tuple, list, tuple])


class TooManyTurns(unittest.TestCase):
    def test_without_an_end(self):
        course = One(read(ROUND))
        for many in [0, 1, 3, 4, 9, 100, 200]:
            self.assertEqual(rested(course, course.first(), many), stepped(course, course.first(), many))
        for many in [10 ** 3, 10 ** 20, GREAT, 10 ** 60 - 1]:
            with self.assertRaises(TooMany):
                rested(course, course.first(), many)

    def test_sixty_and_sixty_one(self):
        course = One(read("parties ann; acts pay; sore late; sore worse; part p in late; "
                          "a ann must pay by 1 else worse; done; part q in worse; b ann must pay by 1 else late; done"))
        stand, breaks = rested(course, course.first(), 60)
        self.assertEqual((stand, breaks[-1], len(breaks)), (("late", 0, (1, 0)), (59, "ann", "b"), 60))
        for many in [61, 62, 10 ** 59]:
            with self.assertRaises(TooMany):
                rested(course, course.first(), many)

    def test_up_to_the_sixty_first(self):
        course = One(read(ROUND))
        breaking = []
        stand = course.first()
        for turn in range(1000):
            stand, broken = course.after(stand, "rest")
            breaking += [turn] * len(broken)
        self.assertEqual(rested(course, course.first(), breaking[59] + 1)[1][-1][0], breaking[59])
        self.assertEqual(len(rested(course, course.first(), breaking[60])[1]), 60)
        for many in [breaking[60] + 1, breaking[60] + 2]:
            with self.assertRaises(TooMany):
                rested(course, course.first(), many)

    def test_sixty_and_then_none(self):
        for many in [60, 61, 10 ** 59]:
            answer = rested(falling(60), falling(60).first(), many)
            self.assertEqual(answer, (("late", 0, (0,) * 60), [(turn, "ann", word(turn + 1)) for turn in range(60)]))
        self.assertEqual(len(rested(falling(61), falling(61).first(), 60)[1]), 60)
        for many in [61, 10 ** 59]:
            with self.assertRaises(TooMany):
                rested(falling(61), falling(61).first(), many)

    def test_turns_are_counted_not_breaks(self):
        course = One(read("parties ann; acts pay; sore late; sore worse; part p in late; "
                          "a ann must pay by 1 else worse; b ann must pay by 1 else late; done; "
                          "part q in worse; c ann must pay by 1 else late; done"))
        self.assertEqual(len(rested(course, course.first(), 60)[1]), 90)
        with self.assertRaises(TooMany):
            rested(course, course.first(), 61)

    def test_rests_that_break_nothing_are_not_counted(self):
        course = One(read(HEADER + "; a bob must pay by 99999999999999999999 else late"))
        self.assertEqual(rested(course, course.first(), 10 ** 20)[1], [])


class TwoRows(unittest.TestCase):
    def assert_the_same(self, course, stand, one, other):
        at_once = rested(course, stand, one + other)
        first = rested(course, stand, one)
        second = rested(course, first[0], other)
        self.assertEqual(at_once, (second[0], first[1] + [(one + turn, who, label) for turn, who, label in second[1]]))

    def test_beside_the_same_at_once(self):
        for one, other in itertools.product([0, 1, 2, 4, 5, 8, 9, 30, 10 ** 30, 10 ** 59], repeat=2):
            self.assert_the_same(One(read(SALE)), ("sale", 0, (3, 0)), one, other)
            self.assert_the_same(falling(60), falling(60).first(), one, other)
            self.assert_the_same(Course(["ann", "bob", "eve"], []), 1, one, other)
        for one, other in itertools.product(range(0, 90, 7), repeat=2):
            self.assert_the_same(One(read(ROUND)), ("worse", 1, (2, 1)), one, other)


class TheAskersOwn(unittest.TestCase):
    def test_what_is_told_is_the_askers(self):
        pact = read(SALE)
        course = One(pact)
        answer = rested(course, course.first(), 9)
        answer[1].clear()
        self.assertEqual(rested(course, course.first(), 9)[1], [(4, "ann", "c"), (8, "ann", "d")])
        self.assertEqual((course.first(), shown(pact)), (("sale", 0, (3, 0)), SALE))

    def test_no_list_is_shared_by_two_calls(self):
        course = One(read(SALE))
        one, other = rested(course, ("sale", 0, (0, 0)), 5), rested(course, ("sale", 0, (0, 0)), 5)
        one[1].append("x")
        self.assertEqual(other, (("sale", 1, (0, 0)), []))

    def test_a_refusal_changes_nothing(self):
        course = One(read(ROUND))
        before = rested(course, course.first(), 100)
        for again in range(2):
            with self.assertRaises(TooMany):
                rested(course, course.first(), 10 ** 40)
        self.assertEqual(rested(course, course.first(), 100), before)


class ManyTexts(unittest.TestCase):
    def assert_alike(self, course, stand, many, seen):
        free = slack(course, stand)
        answer = stepped(course, stand, many)
        self.assertEqual(told(course, stand, many), answer)
        if free is None:
            self.assertEqual(answer, (course.waited(stand, many), []))
        else:
            self.assertEqual(stepped(course, stand, free), (course.waited(stand, free), []))
            self.assertNotEqual(stepped(course, stand, free + 1)[1], [])
        turns = [] if answer is None else [turn for turn, who, label in answer[1]]
        seen["free"] += free is None
        seen["refused"] += answer is None
        seen["several turns"] += len(set(turns)) > 1
        seen["several at one"] += len(set(turns)) < len(turns)

    def test_beside_one_rest_behind_the_other(self):
        seen = dict.fromkeys(["free", "refused", "several turns", "several at one"], 0)
        for seed in range(1000):
            chance = random.Random(seed)
            for text in [made_text(seed), made_trouble(chance)]:
                pact = read(text)
                try:
                    course = One(pact)
                except (NoName, CalmRoom):
                    continue
                mark, room = chance.choice(pact.rooms)
                left = tuple(0 if mark == "end" else chance.choice([0, 1, duty[4]]) for duty in course.duties)
                with self.subTest(text=text):
                    for stand in [course.first(), (room, chance.randrange(len(pact.parties)), left)]:
                        self.assert_alike(course, stand, chance.choice([1, 5, 20, 80, 300]), seen)
        for many in seen.values():
            self.assertGreater(many, 100, seen)


if __name__ == "__main__":
    unittest.main()
