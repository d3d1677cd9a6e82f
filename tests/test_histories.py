"""Promise 26: rows of acts gone through, and the first breach; and of promises 2, 3 and 4 what goes for them."""

import random
import unittest

from made_texts import HEADER, SALE, made_text
from pactway.courses import Course, One
from pactway.errors import Breach, CalmRoom, NoDeed, NoName
from pactway.histories import first_breach, gone, strict
from pactway.reader import read


class Hops(Course):
    """A course of another class: its stands are texts, and each third act of a row breaks something."""

    def first(self, turn=0):
        return "." * turn

    def turn_of(self, stand):
        return len(stand) % len(self.parties)

    def after(self, stand, act):
        return (stand + act[0], [(self.mover(stand), "hop")] if len(stand) % 3 == 2 else [])


def breach_of(course, acts, *stand):
    """What strict refuses with, told as first_breach tells it; None where it refuses nothing."""
    try:
        strict(course, acts, *stand)
    except Breach as breach:
        return (breach.who, breach.what, breach.turn)
    return None


class Gone(unittest.TestCase):
    def setUp(self):
        self.course = One(read(SALE))

    def test_no_acts(self):
        self.assertEqual(gone(self.course, []), [])
        self.assertEqual(gone(self.course, [], ("late", 1, (0, 2))), [])

    def test_from_the_beginning(self):
        self.assertEqual(gone(self.course, ["rest", "send", "send", "pay", "pay"]), [
            (("sale", 1, (2, 0)), []), (("sale", 0, (2, 0)), []), (("late", 1, (1, 2)), [("ann", "f")]),
            (("late", 0, (1, 2)), []), (("sale", 1, (0, 0)), [])])

    def test_from_a_stand(self):
        wanted = [(("late", 0, (1, 1)), [("bob", "f")]),
                  (("late", 1, (0, 0)), [("ann", "f"), ("ann", "c"), ("ann", "d")])]
        self.assertEqual(gone(self.course, ["send", "send"], ("late", 1, (1, 1))), wanted)
        self.assertEqual(gone(self.course, ["send", "send"], stand=("late", 1, (1, 1))), wanted)

    def test_none_is_the_first_stand(self):
        self.assertEqual(gone(self.course, ["send"], None), gone(self.course, ["send"]))
        self.assertEqual(gone(self.course, ["send"], None), [self.course.after(self.course.first(), "send")])

    def test_it_goes_on_behind_breaches_and_in_an_end(self):
        told = gone(self.course, ["rest"] * 12)
        self.assertEqual([(turn, broken) for turn, (stand, broken) in enumerate(told) if broken],
                         [(4, [("ann", "c")]), (8, [("ann", "d")])])
        self.assertEqual(told[8:], [(("over", 1, (0, 0)), [("ann", "d")]), (("over", 0, (0, 0)), []),
                                    (("over", 1, (0, 0)), []), (("over", 0, (0, 0)), [])])

    def test_the_idle_course(self):
        course = Course(["ann", "bob", "eve"], ["pay"])
        self.assertEqual(gone(course, ["pay", "rest", "pay"]), [(1, []), (2, []), (0, [])])
        self.assertEqual(gone(course, ["pay"], 2), [(0, [])])
        self.assertEqual(gone(course, ["pay"], 0), [(1, [])])

    def test_the_stand_zero_is_no_none(self):
        class Late(Course):
            def first(self, turn=0):
                return 1

        course = Late(["ann", "bob", "eve"], ["pay"])
        self.assertEqual([gone(course, ["pay"]), gone(course, ["pay"], 0)], [[(2, [])], [(1, [])]])
        self.assertEqual([strict(course, []), strict(course, [], 0)], [1, 0])

    def test_a_course_of_another_class(self):
        self.assertEqual(gone(Hops(["ann", "bob"], ["pay", "send"]), ["pay", "send", "pay", "rest"]),
                         [("p", []), ("ps", []), ("psp", [("ann", "hop")]), ("pspr", [])])

    def test_no_deed(self):
        for ahead in [[], ["pay"], ["send", "send"], ["rest"] * 9]:
            with self.assertRaises(NoDeed) as caught:
                gone(self.course, ahead + ["keep", "pay", "store"])
            self.assertEqual(caught.exception.word, "keep")
        with self.assertRaises(NoDeed) as caught:
            gone(self.course, ["pay", ""], ("over", 1, (0, 0)))
        self.assertEqual(caught.exception.word, "")
        with self.assertRaises(NoDeed):
            gone(Course(["ann"], []), ["rest", "pay"])


class FirstBreach(unittest.TestCase):
    def setUp(self):
        self.course = One(read(SALE))

    def both(self, course, acts, *stand):
        told = first_breach(course, acts, *stand)
        self.assertEqual(breach_of(course, acts, *stand), told)
        return told

    def test_nothing_broken(self):
        for acts in [[], ["pay"], ["rest", "send", "pay", "send", "rest"], ["pay", "send"] * 200]:
            self.assertIsNone(self.both(self.course, acts))
            self.assertEqual(strict(self.course, acts), ([(self.course.first(), [])] + gone(self.course, acts))[-1][0])

    def test_no_acts(self):
        self.assertEqual(strict(self.course, []), ("sale", 0, (3, 0)))
        self.assertEqual(strict(self.course, [], ("late", 1, (2, 2))), ("late", 1, (2, 2)))
        self.assertIsNone(self.both(self.course, [], ("late", 1, (2, 2))))

    def test_who_what_and_turn(self):
        self.assertEqual(self.both(self.course, ["send"]), ("ann", "f", 0))
        self.assertEqual(self.both(self.course, ["rest", "send", "send", "send"]), ("ann", "f", 2))
        self.assertEqual(self.both(self.course, ["rest"] * 12), ("ann", "c", 4))
        self.assertEqual(self.both(self.course, ["send"], ("late", 1, (0, 2))), ("bob", "f", 0))
        self.assertEqual(self.both(self.course, ["pay", "rest", "rest", "rest", "send"], ("late", 1, (0, 2))),
                         ("ann", "d", 3))
        self.assertIsNone(self.both(self.course, ["pay", "pay", "send"], ("late", 1, (0, 2))))

    def test_the_kind(self):
        self.assertIs(type(first_breach(self.course, ["send"])), tuple)

    def test_what_was_broken_first_at_this_turn(self):
        course = One(read(HEADER + "; a ann must pay by 1 else over; b ann must pay by 1 else late; "
                                   "c ann may not send else late"))
        self.assertEqual(self.both(course, ["rest"]), ("ann", "a", 0))
        self.assertEqual(self.both(course, ["send"]), ("ann", "c", 0))
        self.assertEqual(self.both(course, ["rest", "rest"], ("sale", 1, (0, 1))), ("ann", "b", 1))

    def test_a_stand_handed_in_and_none(self):
        self.assertEqual(self.both(self.course, ["rest"], None), None)
        self.assertEqual(self.both(self.course, ["rest"], ("sale", 0, (1, 0))), ("ann", "c", 0))
        self.assertEqual(strict(self.course, ["rest"], None), ("sale", 1, (2, 0)))
        self.assertEqual(strict(self.course, ["rest"], stand=("sale", 0, (2, 0))), ("sale", 1, (1, 0)))
        self.assertEqual(first_breach(self.course, ["send"], stand=("late", 1, (0, 0))), ("bob", "f", 0))

    def test_the_idle_course(self):
        course = Course(["ann", "bob"], ["pay"])
        self.assertIsNone(self.both(course, ["pay", "rest"] * 200))
        self.assertEqual([strict(course, ["pay"]), strict(course, ["pay"], 1), strict(course, ["rest"] * 3, 0)],
                         [1, 0, 1])

    def test_a_course_of_another_class(self):
        course = Hops(["ann", "bob"], ["pay"])
        self.assertEqual(self.both(course, ["pay"] * 7), ("ann", "hop", 2))
        self.assertEqual(self.both(course, ["pay"] * 7, "p"), ("ann", "hop", 1))
        self.assertEqual(strict(course, ["pay", "rest"], ""), "pr")

    def test_no_deed_ahead_of_a_breach(self):
        for ask in (strict, first_breach):
            for acts in [["keep", "send"], ["rest", "keep", "send", "store"], ["keep"], ["pay", "send", "", "send"]]:
                with self.assertRaises(NoDeed) as caught:
                    ask(self.course, acts)
                self.assertEqual(caught.exception.word, [act for act in acts if act in ["keep", ""]][0])

    def test_no_deed_behind_a_breach_is_not_looked_at(self):
        for acts, breach in [(["send", "keep"], ("ann", "f", 0)),
                             (["rest", "rest", "send", "send", ""], ("ann", "f", 2))]:
            self.assertEqual(self.both(self.course, acts), breach)
            with self.assertRaises(NoDeed):
                gone(self.course, acts)

    def test_no_deed_in_an_end(self):
        for ask in (strict, first_breach, gone):
            with self.assertRaises(NoDeed) as caught:
                ask(self.course, ["send", "pay", "keep"], ("over", 0, (0, 0)))
            self.assertEqual(caught.exception.word, "keep")
        self.assertEqual(strict(self.course, ["send", "pay", "send"], ("over", 0, (0, 0))), ("over", 1, (0, 0)))

    def test_no_deed_of_the_idle_course(self):
        for ask in (strict, first_breach, gone):
            with self.assertRaises(NoDeed) as caught:
                ask(Course(["ann"], ["pay"]), ["pay", "send"])
            self.assertEqual(caught.exception.word, "send")


class TheAskersOwn(unittest.TestCase):
    def test_the_row_stays_and_what_is_told_is_the_askers(self):
        course, acts = One(read(SALE)), ["send", "send", "pay"]
        told = gone(course, acts)
        again = gone(course, acts)
        told[0][1].clear()
        told.clear()
        self.assertEqual(acts, ["send", "send", "pay"])
        self.assertEqual(again, gone(course, acts))
        acts.clear()
        self.assertEqual([broken for stand, broken in again], [[("ann", "f")], [("bob", "f")], []])

    def test_a_refusal_changes_nothing(self):
        course, acts = One(read(SALE)), ["send", "keep"]
        for again in range(2):
            with self.assertRaises(Breach):
                strict(course, acts)
            with self.assertRaises(NoDeed):
                gone(course, acts)
        self.assertEqual((acts, course.first()), (["send", "keep"], ("sale", 0, (3, 0))))


class ManyTexts(unittest.TestCase):
    def test_beside_one_another(self):
        seen = {"breach": 0, "none": 0, "no deed": 0}
        for seed in range(800):
            chance = random.Random(seed)
            try:
                course = One(read(made_text(seed)))
            except (NoName, CalmRoom):
                continue
            stand = course.first(chance.randrange(len(course.parties)))
            acts = [chance.choice(course.choices()) for count in range(20)]
            told = gone(course, acts, stand)
            ahead = stand
            for act, step in zip(acts, told):
                self.assertEqual(step, course.after(ahead, act))
                ahead = step[0]
            broken = [(who, what, turn) for turn, step in enumerate(told) for who, what in step[1]]
            self.assertEqual(first_breach(course, acts, stand), broken[0] if broken else None)
            self.assertEqual(breach_of(course, acts, stand), broken[0] if broken else None)
            place = chance.randrange(21)
            wrong = acts[:place] + ["store"] + acts[place:]
            if broken and broken[0][2] < place:
                self.assertEqual(first_breach(course, wrong, stand), broken[0])
                seen["breach"] += 1
            else:
                with self.assertRaises(NoDeed):
                    first_breach(course, wrong, stand)
                seen["no deed"] += 1
            if not broken:
                self.assertEqual(strict(course, acts, stand), ahead)
                seen["none"] += 1
        for many in seen.values():
            self.assertGreater(many, 50, seen)


if __name__ == "__main__":
    unittest.main()
