"""Promises 19 to 23: the word that holds, stands, turns; the idle course and the course of an agreement; and of
promises 2, 3, 4, 17 and 18 what goes for them."""

import itertools
import random
import unittest

from made_texts import HEADER, SALE, made_text, word
from pactway.clauses import Ban, Duty, Leave, Power
from pactway.courses import Course, One
from pactway.errors import CalmRoom, NoDeed, NoName, PactError
from pactway.flats import flat
from pactway.parts import Let, Pact, Part, shown
from pactway.reader import read

GREAT = 10 ** 59 + 7
TWENTY = 10 ** 20 - 1
THINGS = [None, True, False, 0, 1, 2, -1, 7, "", "sale", "late", "0", (), [], {}, (0,), [0], {0: 0}, (None,), ((),),
          ("sale",), ("sale", 0), ("sale", 0, ()), ["sale", 0, (3, 0)], {"sale": 0}]


def course_of(rows):
    return One(read(HEADER + "; " + rows if rows else HEADER))


class Told:
    """Promises 19 to 22 told once more, of the clauses as flat tells them."""

    def __init__(self, pact):
        self.pact = pact
        self.clauses = flat(pact)
        self.duties = [clause for clause in self.clauses if clause[1] == "must"]
        self.marks = {name: mark for mark, name in pact.rooms}

    def word(self, room, who, act):
        if self.marks.get(room, "end") == "end" or who not in self.pact.parties or act not in self.pact.acts:
            return None
        speaking = [(clause[7], place) for place, clause in enumerate(self.clauses)
                    if clause[1] in ("may", "ban", "power") and room in clause[6]
                    and clause[2] in (who, "any") and clause[3] == act]
        return self.clauses[max(speaking)[1]] if speaking else None

    def bars(self, room, who, act):
        found = self.word(room, who, act)
        return found is not None and found[1] == "ban"

    def first(self, turn):
        room = self.pact.rooms[0][1]
        left = [duty[4] if room in duty[6] and self.marks[room] != "end" else 0 for duty in self.duties]
        return (room, turn, tuple(left))

    def after(self, stand, act):
        room, turn, left = stand
        following = (turn + 1) % len(self.pact.parties)
        if self.marks[room] == "end":
            return ((room, following, left), [])
        mover = self.pact.parties[turn]
        found = self.word(room, mover, act)
        running = {place: turns for place, turns in enumerate(left) if turns}
        own = [place for place in running if self.duties[place][2] == mover]
        broken = []
        if self.bars(room, mover, act):
            broken.append(found)
        else:
            for place in [place for place in own if self.duties[place][3] == act]:
                own.remove(place)
                del running[place]
        for place in own:
            running[place] -= 1
            if not running[place]:
                broken.append(self.duties[place])
                del running[place]
        behind = broken[0][5] if broken else found[5] if found and found[1] == "power" else room
        if self.marks[behind] == "end":
            running = {}
        else:
            for place, duty in enumerate(self.duties):
                if behind in duty[6] and room not in duty[6]:
                    running.setdefault(place, duty[4])
        left = tuple(running.get(place, 0) for place in range(len(self.duties)))
        return ((behind, following, left), [(mover, clause[0]) for clause in broken])

    def open_duties(self, stand):
        return [duty[:1] + duty[2:4] + (left,) for duty, left in zip(self.duties, stand[2]) if left]

    def torn(self, stand):
        return any(self.bars(stand[0], who, act) for label, who, act, left in self.open_duties(stand))

    def some_stand(self, chance):
        room = chance.choice(list(self.marks))
        left = tuple(chance.choice([0, 1, duty[4] // 2, duty[4]]) for duty in self.duties)
        if self.marks[room] == "end":
            left = (0,) * len(left)
        return (room, chance.randrange(len(self.pact.parties)), left)


class Idle(unittest.TestCase):
    def setUp(self):
        self.course = Course(["ann", "bob", "eve"], ["pay", "send"])

    def test_fields(self):
        self.assertEqual((self.course.parties, self.course.acts), (["ann", "bob", "eve"], ["pay", "send"]))

    def test_first(self):
        self.assertEqual([self.course.first(), self.course.first(0), self.course.first(2), self.course.first(turn=1)],
                         [0, 0, 2, 1])

    def test_mover_and_turn(self):
        self.assertEqual([self.course.mover(turn) for turn in range(3)], ["ann", "bob", "eve"])
        self.assertEqual([self.course.turn_of(turn) for turn in range(3)], [0, 1, 2])

    def test_choices(self):
        self.assertEqual(self.course.choices(), ["pay", "send", "rest"])
        self.assertEqual(Course(["ann"], []).choices(), ["rest"])

    def test_after(self):
        for act in ["pay", "send", "rest"]:
            self.assertEqual([self.course.after(turn, act) for turn in range(3)], [(1, []), (2, []), (0, [])])
        self.assertEqual(Course(["ann"], []).after(0, "rest"), (0, []))

    def test_nothing_is_barred_broken_or_open(self):
        for turn in range(3):
            self.assertEqual(self.course.mark(turn), "calm")
            self.assertEqual(self.course.open_duties(turn), [])
            self.assertEqual(self.course.clean(turn), ["pay", "send", "rest"])
            self.assertIs(self.course.torn(turn), False)
            for who, act in itertools.product(["ann", "eve", "dan", "any"], ["pay", "rest", "keep"]):
                self.assertIs(self.course.bars(turn, who, act), False)

    def test_no_deed(self):
        for act in ["keep", "", "ann", "Pay", "pay "]:
            with self.assertRaises(NoDeed) as caught:
                self.course.after(1, act)
            self.assertEqual(caught.exception.word, act)
        with self.assertRaises(NoDeed):
            Course(["ann"], []).after(0, "pay")

    def test_knows(self):
        for thing in [0, 1, 2]:
            self.assertIs(self.course.knows(thing), True)
        for thing in [-1, 3, 4, GREAT, True, False, None, "", "0", "ann", (), (0,), [0], [], {}, {0: 0},
                      ("sale", 0, ())]:
            self.assertIs(self.course.knows(thing), False, thing)
        self.assertIs(Course(["ann"], []).knows(1), False)

    def test_size(self):
        self.assertEqual([Course(list("abcd")[:many], ["pay"] * many).size() for many in [1, 2, 3, 4]], [1, 2, 3, 4])

    def test_waited(self):
        self.assertEqual([self.course.waited(1, many) for many in [0, 1, 2, 3, 4]], [1, 2, 0, 1, 2])
        self.assertEqual(self.course.waited(2, GREAT), (2 + GREAT) % 3)
        self.assertEqual(self.course.waited(2, 3 * GREAT), 2)

    def test_lists_changed_behind_the_call(self):
        parties, acts = ["ann", "bob"], ["pay"]
        course = Course(parties, acts)
        parties.append("eve")
        acts.clear()
        course.choices().clear()
        course.clean(0).clear()
        course.open_duties(0).append("c")
        course.after(0, "pay")[1].append(("ann", "c"))
        self.assertEqual((course.parties, course.acts, course.choices()), (["ann", "bob"], ["pay"], ["pay", "rest"]))
        self.assertEqual((course.after(1, "pay"), course.open_duties(0), course.clean(0)),
                         ((0, []), [], ["pay", "rest"]))


class Holds(unittest.TestCase):
    def held(self, rows, room="sale", who="ann", act="pay"):
        course = course_of(rows)
        label = course.holds(room, who, act)
        stand = (room, 0, (0,) * len(course.duties))
        sorts = {told[0]: told[1] for told in flat(read(HEADER + "; " + rows))}
        self.assertIs(course.bars(stand, who, act), sorts.get(label) == "ban")
        return label

    def test_the_documents_agreement(self):
        course = One(read(SALE))
        self.assertEqual([course.holds("sale", who, act) for who in ["ann", "bob"] for act in ["pay", "send", "rest"]],
                         [None, "f", None, None, "g", None])
        self.assertEqual([course.holds("late", who, act) for who in ["ann", "bob"] for act in ["pay", "send", "rest"]],
                         ["e", "f", None, None, "f", None])

    def test_each_sort(self):
        self.assertEqual(self.held("a ann may pay"), "a")
        self.assertEqual(self.held("a ann may not pay else late"), "a")
        self.assertEqual(self.held("a ann by pay to late"), "a")
        self.assertIsNone(self.held("a ann must pay by 2 else late"))
        self.assertIsNone(One(read(HEADER)).holds("sale", "ann", "pay"))

    def test_it_speaks_of_both(self):
        rows = "a ann may not pay else late"
        self.assertIsNone(self.held(rows, who="bob"))
        self.assertIsNone(self.held(rows, act="send"))
        self.assertIsNone(self.held(rows, who="bob", act="send"))

    def test_equal_depth_the_one_told_last(self):
        rows = ["ann may pay", "ann may not pay else late", "ann by pay to late", "any may pay",
                "any may not pay else over", "any by pay to sale"]
        for one, other in itertools.product(rows, repeat=2):
            self.assertEqual(self.held("a " + one + "; b " + other), "b")
            self.assertEqual(self.held("part p; a " + one + "; done; part q; b " + other + "; done"), "b")
            self.assertEqual(self.held("part p; a " + one + "; part r; done; b " + other + "; done"), "b")

    def test_the_greatest_depth_wherever_it_is_told(self):
        rows = ["ann may pay", "any may not pay else late", "any by pay to late"]
        for one, other in itertools.product(rows, repeat=2):
            self.assertEqual(self.held("part p; a " + one + "; done; b " + other), "a")
            self.assertEqual(self.held("b " + other + "; part p; a " + one + "; done"), "a")
            self.assertEqual(self.held("part p; part q; a " + one + "; done; b " + other + "; done; c " + other), "a")
        self.assertEqual(self.held("part p; part q; a ann may pay; done; done; part r; b ann may pay; "
                                   "part s; c bob may pay; done; done"), "a")

    def test_three_of_equal_depth_beside_lesser_ones(self):
        rows = ("a ann may pay; part p; b ann may pay; done; c any may not pay else late; part q; "
                "d ann by pay to late; done; part r; e any may not pay else over; done; f ann may pay")
        self.assertEqual([self.held(rows), self.held(rows, who="bob")], ["e", "e"])

    def test_duties_are_passed_over(self):
        self.assertEqual(self.held("a ann may not pay else late; part p; b ann must pay by 2 else late; done"), "a")

    def test_where_it_is_in_force(self):
        rows = "a any may pay; part p in late; b any may not pay else over; part q in sale; c any may pay; done; done"
        self.assertEqual([self.held(rows, room=room) for room in ["sale", "late", "over"]], ["a", "b", None])

    def test_rooms_of_parts_within_parts(self):
        rows = ("part p in late sale; a any may pay; part q; b any may not pay else late; part r in sale over; "
                "c ann by pay to late; done; done; part s in over; d any may pay; done; done")
        self.assertEqual([self.held(rows, room=room) for room in ["sale", "late", "over"]], ["c", "b", None])
        self.assertEqual(self.held(rows, who="bob"), "b")

    def test_clauses_of_any(self):
        rows = "a any may not pay else late; b bob may pay"
        self.assertEqual([self.held(rows), self.held(rows, who="bob")], ["a", "b"])
        rows = "b bob may pay; a any may not pay else late"
        self.assertEqual([self.held(rows), self.held(rows, who="bob")], ["a", "a"])

    def test_names_bound(self):
        rows = ("let x be bob; let y be send; let z be late; part p in z; a x may not y else z; done; let bob be ann; "
                "b bob by pay to z; let pay be send; part sale in z; c ann may pay; done")
        course = course_of(rows)
        self.assertEqual([course.holds("late", "bob", "send"), course.holds("late", "ann", "send"),
                          course.holds("sale", "ann", "pay"), course.holds("sale", "bob", "send")],
                         ["a", "c", "b", None])
        self.assertEqual([course.holds("late", "x", "send"), course.holds("z", "bob", "send"),
                          course.holds("late", "bob", "y")], [None, None, None])

    def test_what_is_none_of_the_agreements(self):
        course = course_of("a any may not pay else late; b ann may send")
        for room, who, act in [("sale", "ann", "rest"), ("over", "ann", "pay"), ("shop", "ann", "pay"),
                               ("sale", "eve", "pay"), ("sale", "any", "pay"), ("sale", "ann", "keep"),
                               ("", "", ""), ("sale", "pay", "ann"), ("ann", "sale", "pay"), ("calm", "ann", "pay"),
                               ("a", "ann", "pay"), ("sale", "a", "pay"), ("sale", "ann", "a")]:
            self.assertIsNone(course.holds(room, who, act))
        for who, act in [("eve", "pay"), ("any", "pay"), ("ann", "keep"), ("ann", "rest"), ("", ""), ("bob", "a")]:
            self.assertIs(course.bars(("sale", 0, ()), who, act), False)
        self.assertIs(course.bars(("sale", 0, ()), "bob", "pay"), True)

    def test_in_an_end(self):
        course = course_of("a any may not pay else late; part p in over; b ann by pay to sale; c bob may pay; done")
        for who, act in itertools.product(["ann", "bob"], ["pay", "send", "rest"]):
            self.assertIsNone(course.holds("over", who, act))
            self.assertIs(course.bars(("over", 0, ()), who, act), False)

    def test_whoever_moves_and_whatever_is_open(self):
        course = course_of("c ann must pay by 3 else late; a ann may not pay else late")
        for turn, left in itertools.product([0, 1], [0, 1, 3]):
            self.assertIs(course.bars(("sale", turn, (left,)), "ann", "pay"), True)
            self.assertIs(course.bars(("sale", turn, (left,)), "bob", "pay"), False)


class Beginning(unittest.TestCase):
    def test_the_documents_agreement(self):
        course = One(read(SALE))
        self.assertEqual(course.first(), ("sale", 0, (3, 0)))
        self.assertEqual([course.first(0), course.first(1), course.first(turn=1)],
                         [("sale", 0, (3, 0)), ("sale", 1, (3, 0)), ("sale", 1, (3, 0))])
        self.assertEqual((course.parties, course.acts), (["ann", "bob"], ["pay", "send"]))
        self.assertEqual(course.duties, [("c", "must", "ann", "pay", 3, "late", ["sale", "late", "over"], 0),
                                         ("d", "must", "ann", "pay", 2, "over", ["late"], 1)])

    def test_no_clauses(self):
        course = One(read("parties ann; acts pay; sore late"))
        self.assertEqual((course.first(), course.duties, course.size()), (("late", 0, ()), [], 1))
        self.assertEqual(course.after(("late", 0, ()), "pay"), (("late", 0, ()), []))

    def test_the_first_room_told(self):
        self.assertEqual(One(read("parties ann; acts pay; sore late; calm sale")).first(), ("late", 0, ()))

    def test_open_are_those_in_force_there(self):
        course = course_of("a ann must pay by 4 else late; part p in late; b ann must pay by 5 else late; "
                           "part q in sale; c ann must pay by 6 else late; done; done; part r in over sale; "
                           "d bob must send by 7 else over; done")
        self.assertEqual(course.first(1), ("sale", 1, (4, 0, 0, 7)))

    def test_in_an_end_none_is_open(self):
        course = One(read("parties ann bob; acts pay; end over; sore late; a ann must pay by 4 else late; "
                          "part p in over; b bob must pay by 2 else late; done"))
        self.assertEqual(course.first(1), ("over", 1, (0, 0)))

    def test_twenty_figures(self):
        self.assertEqual(course_of("a ann must pay by 99999999999999999999 else late").first(), ("sale", 0, (TWENTY,)))

    def test_made_by_hand(self):
        inner = Part("p", ["late"], [Let("x", "ann"), Duty("b", "x", "pay", 2, "late"), Ban("c", "any", "pay", "late")])
        pact = Pact(["ann"], ["pay"], [("calm", "sale"), ("sore", "late")],
                    Part("whole", [], [Duty("a", "ann", "pay", 3, "late"), inner, Power("d", "ann", "pay", "late"),
                                       Leave("e", "ann", "pay")]))
        course = One(pact)
        self.assertEqual(course.first(), ("sale", 0, (3, 0)))
        self.assertEqual([course.holds(room, "ann", "pay") for room in ["sale", "late"]], ["e", "c"])

    def test_beyond_the_bounds_nothing_is_refused(self):
        parties, acts, rooms = ([word(first + number) for number in range(many)]
                                for first, many in [(0, 6), (50, 9), (100, 15)])
        rows = [Duty(word(200 + number), parties[5], acts[8], 10 ** 25, rooms[14]) for number in range(100)]
        course = One(Pact(parties, acts, [("sore", room) for room in rooms], Part("whole", [], rows)))
        self.assertEqual(course.first(5), (rooms[0], 5, (10 ** 25,) * 100))
        self.assertEqual(course.size(), 15 * 6 * (10 ** 25 + 1) ** 100)


class Turns(unittest.TestCase):
    def setUp(self):
        self.sale = One(read(SALE))

    def assert_gone(self, course, steps):
        """Each step is the stand ahead, the act, the stand behind and the labels that are broken."""
        for stand, act, behind, labels in steps:
            self.assertEqual(course.after(stand, act), (behind, [(course.mover(stand), label) for label in labels]))

    def test_the_documents_agreement(self):
        self.assert_gone(self.sale, [
            (("sale", 0, (3, 0)), "pay", ("sale", 1, (0, 0)), []),
            (("sale", 0, (3, 0)), "rest", ("sale", 1, (2, 0)), []),
            (("sale", 0, (3, 0)), "send", ("late", 1, (2, 2)), ["f"]),
            (("sale", 1, (3, 0)), "pay", ("sale", 0, (3, 0)), []),
            (("sale", 1, (3, 0)), "send", ("sale", 0, (3, 0)), []),
            (("sale", 1, (3, 0)), "rest", ("sale", 0, (3, 0)), []),
            (("sale", 0, (1, 0)), "rest", ("late", 1, (0, 2)), ["c"]),
            (("sale", 0, (1, 0)), "pay", ("sale", 1, (0, 0)), []),
            (("late", 1, (0, 2)), "send", ("late", 0, (0, 2)), ["f"]),
            (("late", 0, (0, 2)), "rest", ("late", 1, (0, 1)), []),
            (("late", 0, (0, 1)), "rest", ("over", 1, (0, 0)), ["d"]),
            (("late", 0, (0, 2)), "pay", ("sale", 1, (0, 0)), []),
            (("over", 1, (0, 0)), "send", ("over", 0, (0, 0)), []),
            (("over", 0, (0, 0)), "send", ("over", 1, (0, 0)), []),
        ])

    def test_the_next_party_behind_the_last_the_first(self):
        course = One(read("parties ann bob eve; acts pay; calm sale"))
        self.assertEqual([course.after(("sale", turn, ()), "pay")[0][1] for turn in range(3)], [1, 2, 0])
        self.assertEqual([course.turn_of(("sale", turn, ())) for turn in range(3)], [0, 1, 2])
        self.assertEqual([course.mover(("sale", turn, ())) for turn in range(3)], ["ann", "bob", "eve"])
        course = One(read("parties ann; acts pay; calm sale"))
        self.assertEqual(course.after(("sale", 0, ()), "pay")[0], ("sale", 0, ()))

    def test_free_acts_move_nothing(self):
        self.assert_gone(course_of(""), [(("sale", 0, ()), "pay", ("sale", 1, ()), []),
                                         (("late", 1, ()), "send", ("late", 0, ()), [])])

    def test_leaves_move_nothing_and_powers_move(self):
        course = course_of("a any may pay; b any by send to late; part p in late; c any by send to sale; done")
        self.assert_gone(course, [
            (("sale", 0, ()), "pay", ("sale", 1, ()), []), (("sale", 0, ()), "send", ("late", 1, ()), []),
            (("late", 1, ()), "send", ("sale", 0, ()), []), (("late", 1, ()), "rest", ("late", 0, ()), []),
        ])

    def test_a_power_that_is_not_the_word_that_holds(self):
        for later in ["b ann may pay", "b any may pay"]:
            self.assert_gone(course_of("a ann by pay to late; " + later),
                             [(("sale", 0, ()), "pay", ("sale", 1, ()), [])])
        self.assert_gone(course_of("b ann may not pay else over; a ann by pay to late"),
                         [(("sale", 0, ()), "pay", ("late", 1, ()), [])])
        self.assert_gone(course_of("part p; a ann by pay to late; done; b ann may not pay else over"),
                         [(("sale", 0, ()), "pay", ("late", 1, ()), [])])

    def test_an_act_keeps_all_duties_to_it(self):
        course = course_of("a ann must pay by 3 else late; b ann must pay by 1 else late; "
                           "c ann must send by 2 else late; d bob must pay by 3 else late; "
                           "part p in late; e ann must pay by 2 else over; done")
        self.assert_gone(course, [
            (("sale", 0, (3, 1, 2, 3, 2)), "pay", ("sale", 1, (0, 0, 1, 3, 0)), []),
            (("sale", 1, (3, 1, 2, 3, 2)), "pay", ("sale", 0, (3, 1, 2, 0, 2)), []),
            (("sale", 0, (3, 0, 2, 3, 2)), "rest", ("sale", 1, (2, 0, 1, 3, 1)), []),
            (("sale", 0, (3, 0, 2, 1, 2)), "send", ("sale", 1, (2, 0, 0, 1, 1)), []),
            (("sale", 1, (1, 1, 1, 1, 1)), "rest", ("late", 0, (1, 1, 1, 0, 1)), ["d"]),
        ])

    def test_a_power_keeps_and_moves(self):
        self.assert_gone(course_of("a ann must pay by 3 else late; b any by pay to late"), [
            (("sale", 0, (3,)), "pay", ("late", 1, (0,)), []), (("sale", 1, (3,)), "pay", ("late", 0, (3,)), [])])

    def test_other_parties_duties_stay(self):
        course = course_of("a bob must pay by 3 else late")
        self.assert_gone(course, [(("sale", 0, (left,)), act, ("sale", 1, (left,)), [])
                                  for left in [1, 2, 3] for act in ["pay", "send", "rest"]])

    def test_one_turn_left_and_the_whole_number(self):
        course = course_of("a ann must pay by 99999999999999999999 else late; b ann must send by 1 else over")
        self.assert_gone(course, [
            (("sale", 0, (TWENTY, 0)), "rest", ("sale", 1, (TWENTY - 1, 0)), []),
            (("sale", 0, (TWENTY, 1)), "send", ("sale", 1, (TWENTY - 1, 0)), []),
            (("sale", 0, (TWENTY, 1)), "rest", ("over", 1, (0, 0)), ["b"]),
            (("sale", 0, (TWENTY, 1)), "pay", ("over", 1, (0, 0)), ["b"]),
            (("sale", 0, (1, 1)), "pay", ("over", 1, (0, 0)), ["b"]),
            (("sale", 0, (1, 0)), "send", ("late", 1, (0, 0)), ["a"]),
        ])

    def test_open_where_it_is_not_in_force(self):
        course = course_of("part p in late; a ann must pay by 3 else over; done; part q in late; part r in sale; "
                           "b ann must send by 2 else late; done; done")
        self.assert_gone(course, [
            (("sale", 0, (3, 0)), "rest", ("sale", 1, (2, 0)), []),
            (("sale", 0, (1, 2)), "pay", ("sale", 1, (0, 1)), []),
            (("sale", 0, (1, 2)), "rest", ("over", 1, (0, 0)), ["a"]),
            (("sale", 0, (2, 1)), "pay", ("late", 1, (3, 0)), ["b"]),
            (("sale", 0, (3, 1)), "rest", ("late", 1, (2, 0)), ["b"]),
        ])

    def test_entering_opens_what_is_not_open(self):
        course = course_of("m any by send to late; n any by pay to sale; part p in late; "
                           "a bob must pay by 3 else over; b bob must pay by 5 else over; done; "
                           "c bob must pay by 7 else over; part q in sale over; d bob must pay by 4 else over; done")
        self.assert_gone(course, [
            (("sale", 0, (0, 0, 0, 0)), "send", ("late", 1, (3, 5, 0, 0)), []),
            (("sale", 0, (2, 0, 6, 1)), "send", ("late", 1, (2, 5, 6, 1)), []),
            (("sale", 0, (3, 5, 7, 4)), "send", ("late", 1, (3, 5, 7, 4)), []),
            (("late", 0, (0, 1, 0, 0)), "pay", ("sale", 1, (0, 1, 0, 4)), []),
            (("late", 0, (0, 1, 0, 2)), "pay", ("sale", 1, (0, 1, 0, 2)), []),
        ])

    def test_a_move_to_the_same_room_opens_nothing(self):
        course = course_of("m any by pay to sale; n any may not send else late; a bob must send by 3 else late; "
                           "part p in late; b bob must pay by 2 else late; done")
        self.assert_gone(course, [
            (("sale", 0, (0, 0)), "pay", ("sale", 1, (0, 0)), []),
            (("late", 0, (0, 0)), "send", ("late", 1, (0, 0)), ["n"]),
            (("late", 0, (0, 1)), "send", ("late", 1, (0, 1)), ["n"]),
            (("late", 1, (0, 1)), "rest", ("late", 0, (0, 0)), ["b"]),
            (("late", 1, (1, 0)), "rest", ("late", 0, (0, 0)), ["a"]),
        ])

    def test_kept_and_opened_anew_at_the_same_turn(self):
        course = course_of("m ann by pay to late; part p in late; a ann must pay by 3 else over; done")
        self.assert_gone(course, [(("sale", 0, (left,)), "pay", ("late", 1, (3,)), []) for left in [0, 1, 2, 3]])
        self.assert_gone(course, [(("late", 0, (2,)), "pay", ("late", 1, (0,)), [])])

    def test_broken_and_opened_anew_at_the_same_turn(self):
        course = course_of("part p in late; a ann must pay by 3 else late; b ann must send by 2 else over; done")
        self.assert_gone(course, [
            (("sale", 0, (1, 0)), "rest", ("late", 1, (3, 2)), ["a"]),
            (("sale", 0, (1, 1)), "rest", ("late", 1, (3, 2)), ["a", "b"]),
            (("sale", 0, (1, 2)), "rest", ("late", 1, (3, 1)), ["a"]),
            (("late", 0, (1, 2)), "rest", ("late", 1, (0, 1)), ["a"]),
        ])

    def test_a_barred_act_keeps_nothing_and_moves_by_its_else(self):
        course = course_of("a ann must pay by 3 else over; b ann by pay to over; c ann may not pay else late")
        self.assert_gone(course, [
            (("sale", 0, (3,)), "pay", ("late", 1, (2,)), ["c"]), (("sale", 0, (2,)), "pay", ("late", 1, (1,)), ["c"]),
            (("sale", 0, (1,)), "pay", ("late", 1, (0,)), ["c", "a"]),
            (("sale", 0, (0,)), "pay", ("late", 1, (0,)), ["c"]), (("sale", 1, (3,)), "pay", ("sale", 0, (3,)), []),
        ])

    def test_several_broken_at_one_turn(self):
        course = course_of("a ann must pay by 2 else late; b bob must pay by 1 else over; part p; "
                           "c ann must send by 3 else over; done; d ann must pay by 1 else over; "
                           "e any may not send else late")
        self.assert_gone(course, [
            (("sale", 0, (1, 1, 1, 1)), "rest", ("late", 1, (0, 1, 0, 0)), ["a", "c", "d"]),
            (("sale", 0, (1, 1, 1, 1)), "send", ("late", 1, (0, 1, 0, 0)), ["e", "a", "c", "d"]),
            (("sale", 0, (1, 1, 1, 1)), "pay", ("over", 1, (0, 0, 0, 0)), ["c"]),
            (("sale", 0, (2, 1, 1, 1)), "rest", ("over", 1, (0, 0, 0, 0)), ["c", "d"]),
            (("sale", 0, (2, 1, 2, 1)), "send", ("late", 1, (1, 1, 1, 0)), ["e", "d"]),
        ])

    def test_a_duty_broken_at_a_powers_turn(self):
        course = course_of("m any by send to sale; a ann must pay by 2 else late")
        self.assert_gone(course, [(("sale", 0, (1,)), "send", ("late", 1, (0,)), ["a"]),
                                  (("late", 0, (2,)), "send", ("sale", 1, (1,)), [])])

    def test_moves_to_an_end_and_turns_in_it(self):
        course = course_of("m any by pay to over; n ann may not send else over; a ann must send by 3 else late; "
                           "part p in over; b bob must pay by 2 else late; c any by pay to sale; "
                           "d any may not send else late; done")
        self.assert_gone(course, [
            (("sale", 0, (3, 0)), "pay", ("over", 1, (0, 0)), []),
            (("sale", 0, (3, 2)), "send", ("over", 1, (0, 0)), ["n"]),
            (("sale", 1, (3, 2)), "pay", ("over", 0, (0, 0)), []),
        ])
        self.assert_gone(course, [(("over", turn, (0, 0)), act, ("over", 1 - turn, (0, 0)), [])
                                  for turn in [0, 1] for act in ["pay", "send", "rest"]])

    def test_an_act_that_is_no_choice(self):
        course = course_of("a ann must pay by 1 else late")
        for stand in [("sale", 0, (1,)), ("late", 1, (0,)), ("over", 0, (0,))]:
            for act in ["keep", "", "ann", "sale", "a", "may", "Pay", "pay send", "rest "]:
                with self.assertRaises(NoDeed) as caught:
                    course.after(stand, act)
                self.assertEqual(caught.exception.word, act)

    def test_names_bound_anew(self):
        course = course_of("let buyer be ann; let ann be bob; let pay be send; let late be over; "
                           "a buyer must pay by 1 else late; b ann must pay by 2 else late")
        self.assert_gone(course, [(("sale", 0, (1, 2)), "pay", ("over", 1, (0, 0)), ["a"]),
                                  (("sale", 0, (1, 2)), "send", ("sale", 1, (0, 2)), []),
                                  (("sale", 1, (1, 1)), "rest", ("over", 0, (0, 0)), ["b"])])
        self.assertEqual(course.after(("sale", 1, (1, 1)), "rest")[1], [("bob", "b")])

    def test_labels_alike_made_by_hand(self):
        rows = [Duty("a", "ann", "pay", 1, "late"), Duty("a", "ann", "pay", 2, "late"), Ban("a", "any", "pay", "late")]
        course = One(Pact(["ann"], ["pay"], [("sore", "late")], Part("whole", [], rows)))
        self.assertEqual(course.after(("late", 0, (1, 2)), "pay"), (("late", 0, (0, 1)), [("ann", "a"), ("ann", "a")]))


class Stands(unittest.TestCase):
    def test_marks(self):
        course = course_of("a ann must pay by 2 else late")
        for left in [0, 1, 2]:
            self.assertEqual([course.mark((room, 1, (left,))) for room in ["sale", "late"]], ["calm", "sore"])
        self.assertEqual(course.mark(("over", 1, (0,))), "end")

    def test_open_duties(self):
        course = course_of("let x be bob; part p in late; a x must send by 4 else late; done; "
                           "b ann must pay by 99999999999999999999 else late")
        self.assertEqual(course.open_duties(course.first()), [("b", "ann", "pay", TWENTY)])
        self.assertEqual(course.open_duties(("sale", 1, (4, 1))), [("a", "bob", "send", 4), ("b", "ann", "pay", 1)])
        self.assertEqual(course.open_duties(("late", 0, (3, 0))), [("a", "bob", "send", 3)])
        self.assertEqual(course.open_duties(("late", 0, (0, 0))), [])
        self.assertEqual(course.open_duties(("over", 0, (0, 0))), [])

    def test_torn(self):
        course = course_of("a ann must pay by 3 else late; b bob must send by 2 else late; "
                           "part p in late; c any may not pay else over; d ann may not send else over; done")
        for turn in [0, 1]:
            for left in [1, 2, 3]:
                self.assertIs(course.torn(("late", turn, (left, 0))), True)
                self.assertIs(course.torn(("late", turn, (left, 2))), True)
                self.assertIs(course.torn(("sale", turn, (left, 2))), False)
            self.assertIs(course.torn(("late", turn, (0, 2))), False)
            self.assertIs(course.torn(("late", turn, (0, 0))), False)
            self.assertIs(course.torn(("over", turn, (0, 0))), False)

    def test_torn_by_a_duty_of_another_room(self):
        course = course_of("part p in sale; a bob must pay by 3 else late; done; part q in late; "
                           "c any may not pay else over; done; part r; part s in late; d ann may pay; done; done")
        self.assertIs(course.torn(("late", 0, (1,))), True)
        self.assertIs(course.torn(("sale", 0, (1,))), False)
        self.assertIs(course_of("a bob must pay by 3 else late; b any may not pay else late; c bob may pay")
                      .torn(("sale", 0, (3,))), False)

    def test_clean(self):
        course = course_of("a ann must pay by 3 else late; b ann must send by 3 else late; "
                           "c bob may not send else late; part p in late; d ann may not pay else over; done")
        for stand, clean in [
            (("sale", 0, (3, 3)), ["pay", "send", "rest"]), (("sale", 0, (1, 3)), ["pay"]),
            (("sale", 0, (2, 1)), ["send"]), (("sale", 0, (1, 1)), []), (("sale", 0, (0, 0)), ["pay", "send", "rest"]),
            (("sale", 1, (1, 1)), ["pay", "rest"]), (("late", 0, (3, 3)), ["send", "rest"]),
            (("late", 0, (1, 3)), []), (("late", 0, (0, 1)), ["send"]), (("late", 1, (1, 1)), ["pay", "rest"]),
            (("over", 0, (0, 0)), ["pay", "send", "rest"]), (("over", 1, (0, 0)), ["pay", "send", "rest"]),
        ]:
            self.assertEqual(course.clean(stand), clean)

    def test_choices_in_the_order_told(self):
        course = One(read("parties ann; acts send pay keep; calm sale; sore late; a ann may not pay else late"))
        self.assertEqual(course.choices(), ["send", "pay", "keep", "rest"])
        self.assertEqual(course.clean(course.first()), ["send", "keep", "rest"])

    def test_knows(self):
        course = One(read(SALE))
        for room, turn, one, other in itertools.product(["sale", "late"], [0, 1], range(4), range(3)):
            self.assertIs(course.knows((room, turn, (one, other))), True)
        for turn in [0, 1]:
            self.assertIs(course.knows(("over", turn, (0, 0))), True)

    def test_knows_of_tuples_one_thing_off(self):
        course = One(read(SALE))
        for thing in [
            ("shop", 0, (3, 0)), ("", 0, (3, 0)), ("calm", 0, (3, 0)), ("ann", 0, (3, 0)), ("pay", 0, (3, 0)),
            ("c", 0, (3, 0)), ("whole", 0, (3, 0)), ("sale", 2, (3, 0)), ("sale", -1, (3, 0)), ("sale", "0", (3, 0)),
            ("sale", GREAT, (3, 0)), ("sale", True, (3, 0)), ("sale", False, (3, 0)), ("sale", None, (3, 0)),
            ("sale", "ann", (3, 0)), ("sale", 0, (4, 0)), ("sale", 0, (3, 3)), ("sale", 0, (-1, 0)),
            ("sale", 0, (3, -1)), ("sale", 0, (3,)), ("sale", 0, ()), ("sale", 0, (3, 0, 0)), ("sale", 0, [3, 0]),
            ("sale", 0, (True, 0)), ("sale", 0, (3, False)), ("sale", 0, (None, 0)), ("sale", 0, ("3", 0)),
            ("sale", 0, (3, (0,))), ("sale", 0, 3), ("sale", 0, None), ("sale", 0, {3: 0, 0: 0}), ("sale", 0, "30"),
            ("over", 0, (1, 0)), ("over", 1, (0, 2)), ("over", 0, (3, 2)), ("over", 0, (False, 0)), ("over", 0, (0,)),
            ("sale", 0), ("sale", 0, (3, 0), 0), (0, "sale", (3, 0)), (("sale", 0, (3, 0)),), ["sale", 0, (3, 0)],
            (["sale"], 0, (3, 0)), ({}, 0, (3, 0)), (("sale",), 0, (3, 0)), (None, 0, (3, 0)), (0, 0, (3, 0)),
            (True, 0, (3, 0)), ("sale", [0], (3, 0)), ("sale", {}, (3, 0)), ("sale", (0,), (3, 0)),
            ("sale", 0, ([], 0)), ("sale", 0, ({}, 0)),
        ] + THINGS:
            self.assertIs(course.knows(thing), False, thing)

    def test_knows_without_duties(self):
        course = course_of("")
        self.assertIs(course.knows(("sale", 0, ())), True)
        for thing in [("sale", 0, (0,)), ("sale", 0, []), ("sale", 0), ("sale", 0, None), ("sale", 0, "")]:
            self.assertIs(course.knows(thing), False)

    def test_knows_of_things_within_things(self):
        course = One(read(SALE))
        things = list(THINGS)
        for one, other in itertools.product(THINGS, repeat=2):
            things += [(one, other), [one, other], (one, 0, other), (one, other, (3, 0)), ("sale", one, other),
                       ("sale", 0, (one, other)), {"sale": one, "late": [other]}]
        numbers = [0, 1, 2, 3]
        for thing in things:
            left = thing[2] if isinstance(thing, tuple) and len(thing) == 3 else None
            right = (isinstance(left, tuple) and thing[0] in ["sale", "late"] and thing[1] in numbers[:2]
                     and not isinstance(thing[1], bool) and len(left) == 2
                     and not any(isinstance(number, bool) for number in left)
                     and left[0] in numbers and left[1] in numbers[:3])
            self.assertIs(course.knows(thing), right, thing)

    def test_knows_of_great_numbers(self):
        course = course_of("a ann must pay by 99999999999999999999 else late")
        for left, known in [(0, True), (1, True), (TWENTY - 1, True), (TWENTY, True), (TWENTY + 1, False), (-1, False)]:
            self.assertIs(course.knows(("late", 1, (left,))), known)

    def test_the_stands_behind_are_known(self):
        course = One(read(SALE))
        for room, turn, one, other in itertools.product(["sale", "late"], [0, 1], range(4), range(3)):
            for act in course.choices():
                behind = course.after((room, turn, (one, other)), act)[0]
                self.assertIs(course.knows(behind), True)
                self.assertIsInstance(behind[2], tuple)

    def test_size(self):
        self.assertEqual(One(read(SALE)).size(), 3 * 2 * 4 * 3)
        self.assertEqual(course_of("").size(), 6)
        nowhere = "part p in late; part q in sale; a ann must pay by 4 else late; done; done"
        self.assertEqual(course_of(nowhere).size(), 6 * 5)
        ended = "part p in over; a ann must pay by 4 else late; b bob must pay by 1 else over; done; c ann may pay"
        self.assertEqual(course_of(ended).size(), 6 * 5 * 2)
        great = "; ".join([word(number) + " ann must pay by 99999999999999999999 else late" for number in range(80)])
        self.assertEqual(course_of(great).size(), 6 * 10 ** 1600)

    def test_size_counts_the_stands(self):
        course = One(read("parties ann bob eve; acts pay; calm sale; sore late; a ann must pay by 2 else late; "
                          "b eve must pay by 1 else late"))
        lefts = list(itertools.product(range(-1, 5), repeat=2))
        stands = [stand for stand in itertools.product(["sale", "late", "over"], range(-1, 5), lefts)
                  if course.knows(stand)]
        self.assertEqual(len(stands), course.size())


class Waited(unittest.TestCase):
    def setUp(self):
        self.course = One(read("parties ann bob eve; acts pay; calm sale; sore late; end over; "
                               "a ann must pay by 4 else late; b eve must pay by 99999999999999999999 else late; "
                               "part p in late; c bob must pay by 5 else over; done"))

    def test_no_rests(self):
        for stand in [("sale", 0, (4, 0, 0)), ("late", 2, (1, 1, 1)), ("over", 1, (0, 0, 0))]:
            self.assertEqual(self.course.waited(stand, 0), stand)

    def test_each_partys_own_turns(self):
        stand = ("sale", 1, (4, 7, 5))
        wanted = [("sale", 1, (4, 7, 5)), ("sale", 2, (4, 7, 4)), ("sale", 0, (4, 6, 4)), ("sale", 1, (3, 6, 4)),
                  ("sale", 2, (3, 6, 3)), ("sale", 0, (3, 5, 3)), ("sale", 1, (2, 5, 3)), ("sale", 2, (2, 5, 2))]
        self.assertEqual([self.course.waited(stand, many) for many in range(8)], wanted)

    def test_what_is_not_open_stays_so(self):
        self.assertEqual(self.course.waited(("late", 0, (0, TWENTY, 0)), 3 * 10 ** 19 + 1),
                         ("late", 1, (0, TWENTY - 10 ** 19, 0)))
        self.assertEqual(self.course.waited(("late", 0, (0, TWENTY, 0)), 3 * TWENTY - 1), ("late", 2, (0, 1, 0)))

    def test_great_numbers_where_nothing_is_open(self):
        self.assertEqual(self.course.waited(("late", 2, (0, 0, 0)), 3 * GREAT + 2), ("late", 1, (0, 0, 0)))
        self.assertEqual(self.course.waited(("over", 1, (0, 0, 0)), 3 * GREAT), ("over", 1, (0, 0, 0)))
        one = One(read("parties ann; acts pay; calm sale"))
        self.assertEqual(one.waited(("sale", 0, ()), 10 ** 60 - 1), ("sale", 0, ()))


class Refused(unittest.TestCase):
    def assert_refused(self, rows, error, name):
        for ask in (flat, One):
            with self.assertRaises(PactError) as caught:
                ask(read(HEADER + "; " + rows))
            self.assertEqual((type(caught.exception), caught.exception.word), (error, name))

    def test_names(self):
        for rows, error, name in [
            ("let x be eve", NoName, "eve"), ("a eve may pay", NoName, "eve"), ("a pay may pay", NoName, "pay"),
            ("a any may keep", NoName, "keep"), ("a any may sale", NoName, "sale"),
            ("a ann by pay to ann", NoName, "ann"),
            ("a ann must pay by 1 else shop", NoName, "shop"), ("a ann must pay by 1 else sale", CalmRoom, "sale"),
            ("a ann may not pay else sale", CalmRoom, "sale"),
            ("let x be sale; a ann may not pay else x", CalmRoom, "x"), ("part p in late shop; done", NoName, "shop"),
            ("part p; a ann may pay; done; part q in p; done", NoName, "p"),
        ]:
            self.assert_refused(rows, error, name)

    def test_the_first_wrong_row_from_left_to_right(self):
        wrong = [("let x be nobody", NoName, "nobody"), ("part p in shop store; done", NoName, "shop"),
                 ("a eve may keep", NoName, "eve"), ("b any may not keep else sale", NoName, "keep"),
                 ("c bob must pay by 1 else sale", CalmRoom, "sale")]
        for (one, error, name), (other, *rest) in itertools.permutations(wrong, 2):
            self.assert_refused(one + "; " + other, error, name)
            self.assert_refused("part o in late; " + one + "; done; " + other, error, name)

    def test_by_the_name_as_it_is_written(self):
        self.assert_refused("let x be ann; let y be x; a bob may y", NoName, "y")

    def test_whatever_is_in_force(self):
        self.assert_refused("part p in late; part q in sale; a eve may pay; done; done", NoName, "eve")


class TheAskersOwn(unittest.TestCase):
    def test_lists_changed_behind_the_call(self):
        parties, acts, rooms = ["ann", "bob"], ["pay"], [("calm", "sale"), ("sore", "late")]
        rows = [Duty("a", "ann", "pay", 2, "late")]
        inner = Part("p", ["late"], [Ban("b", "any", "pay", "late")])
        pact = Pact(parties, acts, rooms, Part("whole", [], rows + [inner]))
        course = One(pact)
        for things in (parties, acts, rooms, rows, pact.parties, pact.acts, pact.rooms, pact.whole.rows, inner.rooms,
                       inner.rows):
            things.clear()
        self.assertEqual((course.parties, course.acts, course.choices()), (["ann", "bob"], ["pay"], ["pay", "rest"]))
        self.assertEqual((course.first(), course.size()), (("sale", 0, (2,)), 2 * 2 * 3))
        self.assertEqual(course.after(("late", 1, (2,)), "pay"), (("late", 0, (2,)), [("bob", "b")]))
        self.assertEqual(course.after(("sale", 0, (1,)), "rest"), (("late", 1, (0,)), [("ann", "a")]))
        self.assertEqual((course.mark(("late", 1, (2,))), course.knows(("late", 1, (2,)))), ("sore", True))

    def test_what_is_told_is_the_askers_own(self):
        course = One(read(SALE))
        stand = ("sale", 0, (1, 0))
        for again in range(2):
            told = [course.choices(), course.clean(stand), course.open_duties(stand), course.after(stand, "send")[1]]
            self.assertEqual(told, [["pay", "send", "rest"], ["pay"], [("c", "ann", "pay", 1)],
                                    [("ann", "f"), ("ann", "c")]])
            for things in told:
                things.clear()
        self.assertEqual((course.acts, stand), (["pay", "send"], ("sale", 0, (1, 0))))

    def test_the_agreement_stays_as_it_is(self):
        pact = read(SALE)
        course = One(pact)
        stand = course.first()
        for act in ["send", "send", "pay", "rest"] * 4:
            stand = course.after(stand, act)[0]
            course.clean(stand)
            course.torn(stand)
        self.assertEqual(shown(pact), SALE)
        self.assertEqual([pact.parties, pact.acts, pact.rooms],
                         [["ann", "bob"], ["pay", "send"], [("calm", "sale"), ("sore", "late"), ("end", "over")]])
        self.assertEqual(course.first(), ("sale", 0, (3, 0)))

    def test_nothing_is_kept_of_what_was_asked(self):
        course = One(read(SALE))
        told = course.after(("sale", 0, (3, 0)), "send")
        course.after(("late", 1, (2, 2)), "send")
        with self.assertRaises(NoDeed):
            course.after(("sale", 0, (3, 0)), "keep")
        self.assertEqual(course.after(("sale", 0, (3, 0)), "send"), told)

    def test_two_courses_of_one_agreement(self):
        pact = read(SALE)
        one, other = One(pact), One(pact)
        self.assertEqual(one.after(one.first(), "send"), other.after(other.first(), "send"))
        self.assertEqual(one.duties, other.duties)


class ManyTexts(unittest.TestCase):
    def assert_alike(self, course, told, stand, seen):
        self.assertEqual(course.turn_of(stand), stand[1])
        self.assertEqual(course.mover(stand), told.pact.parties[stand[1]])
        self.assertIs(course.knows(stand), True)
        self.assertEqual(course.mark(stand), told.marks[stand[0]])
        self.assertEqual(course.open_duties(stand), told.open_duties(stand))
        self.assertIs(course.torn(stand), told.torn(stand))
        seen["torn"] += told.torn(stand)
        clean = []
        for act in told.pact.acts + ["rest"]:
            behind = told.after(stand, act)
            self.assertEqual(course.after(stand, act), behind)
            clean += [] if behind[1] else [act]
            seen["moved"] += behind[0][0] != stand[0]
            seen["several"] += len(behind[1]) > 1
            seen["kept"] += any(new < old - 1 for new, old in zip(behind[0][2], stand[2]))
            seen["opened"] += any(new > old for new, old in zip(behind[0][2], stand[2]))
        self.assertEqual(course.clean(stand), clean)
        seen["stuck"] += clean == []

    def test_told_twice(self):
        seen = dict.fromkeys(["torn", "moved", "several", "kept", "opened", "stuck", "refused"], 0)
        for seed in range(1500):
            chance = random.Random(seed)
            pact = read(made_text(seed))
            with self.subTest(text=shown(pact)):
                try:
                    told = Told(pact)
                except (NoName, CalmRoom) as refusal:
                    with self.assertRaises(type(refusal)) as caught:
                        One(pact)
                    self.assertEqual(caught.exception.word, refusal.word)
                    seen["refused"] += 1
                    continue
                course = One(pact)
                self.assertEqual(course.duties, told.duties)
                for room, who, act in itertools.product(list(told.marks) + ["x"], pact.parties + ["any", "x"],
                                                        pact.acts + ["rest", "y"]):
                    found = told.word(room, who, act)
                    self.assertEqual(course.holds(room, who, act), found and found[0])
                    self.assertIs(course.bars((room, 0, ()), who, act), told.bars(room, who, act))
                for turn in range(len(pact.parties)):
                    stand = told.first(turn)
                    self.assertEqual(course.first(turn), stand)
                    for count in range(12):
                        self.assert_alike(course, told, stand, seen)
                        stand = told.after(stand, chance.choice(pact.acts + ["rest"]))[0]
                for count in range(12):
                    self.assert_alike(course, told, told.some_stand(chance), seen)
        for many in seen.values():
            self.assertGreater(many, 200, seen)


if __name__ == "__main__":
    unittest.main()
