"""Promises 9 to 12: clauses; and of promise 2 what goes for them."""

import unittest

from pactway.clauses import Ban, Clause, Duty, Leave, Power, Row

FIELDS = {
    Clause: ["label", "who", "act"],
    Duty: ["label", "who", "act", "turns", "room"],
    Leave: ["label", "who", "act"],
    Ban: ["label", "who", "act", "room"],
    Power: ["label", "who", "act", "room"],
}


def some_clauses():
    return [
        Clause("p", "ann", "pay"),
        Duty("c", "ann", "pay", 3, "late"),
        Leave("g", "bob", "send"),
        Ban("f", "any", "send", "late"),
        Power("e", "ann", "pay", "sale"),
    ]


def fields_of(clause):
    return [(name, getattr(clause, name)) for name in FIELDS[type(clause)]]


def with_field(clause, name, value):
    things = dict(fields_of(clause))
    things[name] = value
    return type(clause)(*[things[field] for field in FIELDS[type(clause)]])


class Kinds(unittest.TestCase):
    def test_which_class_stands_under_which(self):
        for below, above in [(Clause, Row), (Duty, Clause), (Leave, Clause), (Ban, Clause), (Power, Leave)]:
            with self.subTest(below=below.__name__, above=above.__name__):
                self.assertTrue(issubclass(below, above))
                self.assertIsNot(below, above)

    def test_which_class_stands_under_none_of_the_others(self):
        for one, other in [(Duty, Leave), (Duty, Ban), (Leave, Ban), (Leave, Duty), (Ban, Leave), (Ban, Duty),
                           (Power, Ban), (Power, Duty), (Leave, Power), (Ban, Power), (Duty, Power)]:
            with self.subTest(one=one.__name__, other=other.__name__):
                self.assertFalse(issubclass(one, other))

    def test_fields(self):
        plain, duty, leave, ban, power = some_clauses()
        self.assertEqual((plain.label, plain.who, plain.act), ("p", "ann", "pay"))
        self.assertEqual((duty.label, duty.who, duty.act, duty.turns, duty.room), ("c", "ann", "pay", 3, "late"))
        self.assertEqual((leave.label, leave.who, leave.act), ("g", "bob", "send"))
        self.assertEqual((ban.label, ban.who, ban.act, ban.room), ("f", "any", "send", "late"))
        self.assertEqual((power.label, power.who, power.act, power.room), ("e", "ann", "pay", "sale"))

    def test_arguments_bear_the_names_of_the_fields(self):
        for clause, named in [
            (Clause("a", "b", "c"), Clause(act="c", who="b", label="a")),
            (Duty("a", "b", "c", 4, "d"), Duty(room="d", turns=4, act="c", who="b", label="a")),
            (Leave("a", "b", "c"), Leave(act="c", who="b", label="a")),
            (Ban("a", "b", "c", "d"), Ban(room="d", act="c", who="b", label="a")),
            (Power("a", "b", "c", "d"), Power(room="d", act="c", who="b", label="a")),
        ]:
            self.assertEqual(fields_of(clause), fields_of(named))

    def test_each_clause_has_fields_of_its_own(self):
        first = Duty("c", "ann", "pay", 3, "late")
        Duty("d", "bob", "send", 4, "over")
        self.assertEqual(fields_of(first),
                         [("label", "c"), ("who", "ann"), ("act", "pay"), ("turns", 3), ("room", "late")])


class Told(unittest.TestCase):
    def test_a_plain_row_has_no_rows(self):
        self.assertEqual(Row().rows_told(), [])

    def test_the_row_of_each_sort(self):
        for clause, row in [
            (Clause("p", "ann", "pay"), "p ann"),
            (Clause("p", "any", "pay"), "p any"),
            (Duty("c", "ann", "pay", 3, "late"), "c ann must pay by 3 else late"),
            (Duty("d", "bob", "send", 1, "over"), "d bob must send by 1 else over"),
            (Duty("d", "bob", "send", 10 ** 20 - 1, "over"), "d bob must send by " + "9" * 20 + " else over"),
            (Leave("g", "bob", "send"), "g bob may send"),
            (Leave("g", "any", "send"), "g any may send"),
            (Ban("f", "ann", "send", "late"), "f ann may not send else late"),
            (Ban("f", "any", "send", "late"), "f any may not send else late"),
            (Power("e", "ann", "pay", "sale"), "e ann by pay to sale"),
            (Power("e", "any", "pay", "sale"), "e any by pay to sale"),
        ]:
            with self.subTest(row=row):
                told = clause.rows_told()
                self.assertIs(type(told), list)
                self.assertEqual(told, [row])

    def test_the_tail_of_each_sort(self):
        tails = ["", "must pay by 3 else late", "may send", "may not send else late", "by pay to sale"]
        self.assertEqual([clause.tail() for clause in some_clauses()], tails)
        self.assertEqual(Leave("g", "any", "send").tail(), "may send")
        self.assertEqual(Duty("c", "ann", "ann", 12, "ann").tail(), "must ann by 12 else ann")

    def test_the_row_is_label_who_and_tail(self):
        for clause in some_clauses()[1:]:
            self.assertEqual(clause.rows_told(), [clause.label + " " + clause.who + " " + clause.tail()])

    def test_the_sort_of_each(self):
        self.assertEqual([clause.sort_word() for clause in some_clauses()], ["", "must", "may", "ban", "power"])

    def test_what_each_lets(self):
        plain, duty, leave, ban, power = some_clauses()
        self.assertIsNone(plain.lets())
        self.assertIsNone(duty.lets())
        self.assertIs(leave.lets(), True)
        self.assertIs(ban.lets(), False)
        self.assertIs(power.lets(), True)

    def test_where_each_leads(self):
        plain, duty, leave, ban, power = some_clauses()
        self.assertIsNone(plain.leads())
        self.assertEqual(duty.leads(), "late")
        self.assertIsNone(leave.leads())
        self.assertEqual(ban.leads(), "late")
        self.assertEqual(power.leads(), "sale")


class SpeaksOf(unittest.TestCase):
    def of_each_sort(self, who, act):
        return [Clause("c", who, act), Duty("c", who, act, 2, "late"), Leave("c", who, act),
                Ban("c", who, act, "late"), Power("c", who, act, "late")]

    def test_of_one_party(self):
        for clause in self.of_each_sort("ann", "pay"):
            with self.subTest(sort=clause.sort_word()):
                self.assertIs(clause.speaks_of("ann", "pay"), True)
                self.assertIs(clause.speaks_of("bob", "pay"), False)
                self.assertIs(clause.speaks_of("ann", "send"), False)
                self.assertIs(clause.speaks_of("bob", "send"), False)
                self.assertIs(clause.speaks_of("pay", "ann"), False)

    def test_any_in_leaves_bans_and_powers(self):
        for clause in [Leave("c", "any", "pay"), Ban("c", "any", "pay", "late"), Power("c", "any", "pay", "late")]:
            with self.subTest(sort=clause.sort_word()):
                for who in ["ann", "bob", "any", "late", "c"]:
                    self.assertIs(clause.speaks_of(who, "pay"), True)
                    self.assertIs(clause.speaks_of(who, "send"), False)
                    self.assertIs(clause.speaks_of(who, "any"), False)

    def test_any_asked_of_a_clause_of_one_party(self):
        for clause in self.of_each_sort("ann", "pay"):
            self.assertIs(clause.speaks_of("any", "pay"), False)
            self.assertIs(clause.speaks_of("ann", "any"), False)

    def test_an_act_is_not_any(self):
        for clause in self.of_each_sort("ann", "any"):
            self.assertIs(clause.speaks_of("ann", "pay"), False)
            self.assertIs(clause.speaks_of("ann", "any"), True)

    def test_names_are_compared_as_they_stand(self):
        for clause in self.of_each_sort("ann", "pay"):
            for who, act in [("an", "pay"), ("anna", "pay"), ("Ann", "pay"), ("ann ", "pay"), ("", "pay"),
                             ("ann", "pa"), ("ann", "pays"), ("ann", "PAY"), ("ann", " pay"), ("ann", "")]:
                with self.subTest(sort=clause.sort_word(), who=who, act=act):
                    self.assertIs(clause.speaks_of(who, act), False)
        for who in ["anyone", "an", "Any"]:
            self.assertIs(Leave("c", who, "pay").speaks_of("ann", "pay"), False)


class Renamed(unittest.TestCase):
    def assert_renamed(self, clause, names, wanted):
        was = fields_of(clause)
        names_were = dict(names)
        told = clause.renamed(names)
        self.assertIsNot(told, clause)
        self.assertIs(type(told), type(wanted))
        self.assertEqual(fields_of(told), fields_of(wanted))
        self.assertEqual(told.rows_told(), wanted.rows_told())
        self.assertEqual(fields_of(clause), was)
        self.assertEqual(list(names.items()), list(names_were.items()))

    def test_all_names(self):
        names = {"ann": "eve", "bob": "dan", "pay": "give", "send": "ship", "late": "sick", "sale": "shop",
                 "any": "all"}
        wanted = [Clause("p", "eve", "give"), Duty("c", "eve", "give", 3, "sick"), Leave("g", "dan", "ship"),
                  Ban("f", "all", "ship", "sick"), Power("e", "eve", "give", "shop")]
        for clause, other in zip(some_clauses(), wanted):
            with self.subTest(sort=clause.sort_word()):
                self.assert_renamed(clause, names, other)

    def test_names_that_the_dict_lacks_stay(self):
        for names, wanted in [
            ({}, Duty("c", "ann", "pay", 3, "late")),
            ({"eve": "dan"}, Duty("c", "ann", "pay", 3, "late")),
            ({"ann": "eve"}, Duty("c", "eve", "pay", 3, "late")),
            ({"pay": "give"}, Duty("c", "ann", "give", 3, "late")),
            ({"late": "sick"}, Duty("c", "ann", "pay", 3, "sick")),
            ({"ann": "eve", "late": "sick"}, Duty("c", "eve", "pay", 3, "sick")),
        ]:
            with self.subTest(names=names):
                self.assert_renamed(Duty("c", "ann", "pay", 3, "late"), names, wanted)

    def test_one_name_at_a_time_in_each_sort(self):
        for name, put in [("who", "eve"), ("act", "give"), ("room", "sick")]:
            for clause in some_clauses():
                if name in FIELDS[type(clause)]:
                    with self.subTest(name=name, sort=clause.sort_word()):
                        names = {getattr(clause, name): put}
                        self.assert_renamed(clause, names, with_field(clause, name, put))

    def test_an_empty_dict_tells_a_new_clause(self):
        for clause in some_clauses():
            self.assert_renamed(clause, {}, clause)

    def test_any_is_looked_up(self):
        self.assert_renamed(Leave("g", "any", "send"), {"any": "bob"}, Leave("g", "bob", "send"))
        self.assert_renamed(Ban("g", "any", "send", "late"), {"any": "bob"}, Ban("g", "bob", "send", "late"))
        self.assert_renamed(Power("g", "any", "send", "late"), {"any": "bob"}, Power("g", "bob", "send", "late"))
        self.assert_renamed(Leave("g", "bob", "send"), {"any": "ann"}, Leave("g", "bob", "send"))
        self.assert_renamed(Leave("g", "bob", "send"), {"bob": "any"}, Leave("g", "any", "send"))
        self.assert_renamed(Ban("g", "any", "send", "late"), {"bob": "ann"}, Ban("g", "any", "send", "late"))

    def test_label_and_number_stay(self):
        names = {"c": "d", "3": "4", "must": "may", "by": "to", "else": "in"}
        self.assert_renamed(Duty("c", "ann", "pay", 3, "late"), names, Duty("c", "ann", "pay", 3, "late"))
        for clause in some_clauses():
            self.assert_renamed(clause, {clause.label: "other"}, clause)

    def test_a_name_is_put_once(self):
        swap = {"ann": "bob", "bob": "ann"}
        self.assert_renamed(Leave("g", "ann", "bob"), swap, Leave("g", "bob", "ann"))
        chain = {"ann": "pay", "pay": "late", "late": "ann"}
        self.assert_renamed(Duty("ann", "ann", "pay", 5, "late"), chain, Duty("ann", "pay", "late", 5, "ann"))

    def test_one_name_in_several_places(self):
        names = {"x": "y"}
        self.assert_renamed(Clause("x", "x", "x"), names, Clause("x", "y", "y"))
        self.assert_renamed(Duty("x", "x", "x", 1, "x"), names, Duty("x", "y", "y", 1, "y"))
        self.assert_renamed(Leave("x", "x", "x"), names, Leave("x", "y", "y"))
        self.assert_renamed(Ban("x", "x", "x", "x"), names, Ban("x", "y", "y", "y"))
        self.assert_renamed(Power("x", "x", "x", "x"), names, Power("x", "y", "y", "y"))

    def test_names_are_whole_words(self):
        names = {"an": "bo", "pa": "se", "y": "z", "lat": "sic"}
        self.assert_renamed(Duty("c", "ann", "pay", 3, "late"), names, Duty("c", "ann", "pay", 3, "late"))

    def test_a_dict_changed_behind_the_call_changes_nothing(self):
        for clause in some_clauses():
            with self.subTest(sort=clause.sort_word()):
                names = {"ann": "eve", "late": "sick"}
                told = clause.renamed(names)
                was = fields_of(told)
                rows = told.rows_told()
                names["ann"] = "dan"
                names["pay"] = "give"
                names["send"] = "ship"
                names.pop("late")
                self.assertEqual(fields_of(told), was)
                self.assertEqual(told.rows_told(), rows)
                self.assertIs(told.speaks_of(told.who, told.act), True)
                names.clear()
                self.assertEqual(told.rows_told(), rows)


class SameAs(unittest.TestCase):
    def assert_same(self, one, other, wanted):
        self.assertIs(one.same_as(other), wanted)
        self.assertIs(other.same_as(one), wanted)

    def test_clauses_made_alike_are_the_same(self):
        for one, other in zip(some_clauses(), some_clauses()):
            with self.subTest(sort=one.sort_word()):
                self.assert_same(one, other, True)
                self.assert_same(one, one, True)

    def test_texts_and_numbers_made_anew(self):
        turns = 10 ** 20 - 1
        self.assert_same(Duty("c", "ann", "pay", turns, "late"),
                         Duty("".join(["c"]), "".join(["a", "nn"]), "".join(["p", "ay"]), int(str(turns)),
                              "".join(["la", "te"])), True)

    def test_alike_but_for_one_thing(self):
        others = {"label": "q", "who": "dan", "act": "keep", "turns": 4, "room": "over"}
        for one in some_clauses():
            for name in FIELDS[type(one)]:
                with self.subTest(name=name, sort=one.sort_word()):
                    self.assert_same(one, with_field(one, name, others[name]), False)

    def test_any_is_a_name_like_others_here(self):
        self.assert_same(Leave("g", "any", "send"), Leave("g", "bob", "send"), False)
        self.assert_same(Leave("g", "any", "send"), Leave("g", "any", "send"), True)

    def test_plain_clauses_of_unlike_acts(self):
        self.assert_same(Clause("p", "ann", "pay"), Clause("p", "ann", "send"), False)
        self.assert_same(Clause("p", "ann", "pay"), Clause("p", "ann", "pay"), True)

    def test_unlike_sorts(self):
        alike = [Clause("c", "ann", "pay"), Duty("c", "ann", "pay", 1, "late"), Leave("c", "ann", "pay"),
                 Ban("c", "ann", "pay", "late"), Power("c", "ann", "pay", "late")]
        for place, one in enumerate(alike):
            for other_place, other in enumerate(alike):
                with self.subTest(one=one.sort_word(), other=other.sort_word()):
                    self.assertIs(one.same_as(other), place == other_place)

    def test_names_that_changed_places(self):
        self.assert_same(Leave("a", "b", "c"), Leave("b", "a", "c"), False)
        self.assert_same(Leave("a", "b", "c"), Leave("a", "c", "b"), False)
        self.assert_same(Ban("a", "b", "c", "d"), Ban("a", "b", "d", "c"), False)

    def test_numbers_near_to_one_another(self):
        for turns in [1, 2, 10, 10 ** 20 - 2]:
            self.assert_same(Duty("c", "ann", "pay", turns, "late"), Duty("c", "ann", "pay", turns + 1, "late"), False)

    def test_it_changes_neither(self):
        for one in some_clauses():
            for other in some_clauses():
                was, other_was = fields_of(one), fields_of(other)
                one.same_as(other)
                self.assertEqual((fields_of(one), fields_of(other)), (was, other_was))

    def test_renamed_and_renamed_back(self):
        there = {"ann": "eve", "pay": "give", "late": "sick"}
        back = {"eve": "ann", "give": "pay", "sick": "late"}
        for clause in some_clauses():
            self.assert_same(clause, clause.renamed({}), True)
            self.assert_same(clause, clause.renamed(there).renamed(back), True)
        self.assert_same(some_clauses()[1], some_clauses()[1].renamed(there), False)


class TheAskersOwn(unittest.TestCase):
    def test_rows_told_are_new_each_time(self):
        for row in some_clauses() + [Row()]:
            told = row.rows_told()
            other = row.rows_told()
            wanted = list(other)
            self.assertIsNot(told, other)
            told.append("x")
            told[0] = "y"
            told.append("z")
            self.assertEqual(other, wanted)
            self.assertEqual(row.rows_told(), wanted)
        self.assertEqual(Row().rows_told(), [])

    def test_asking_changes_nothing(self):
        for clause in some_clauses():
            with self.subTest(sort=clause.sort_word()):
                was = fields_of(clause)
                first = [clause.rows_told(), clause.tail(), clause.sort_word(), clause.lets(), clause.leads()]
                clause.speaks_of("bob", "send")
                clause.renamed({"ann": "eve", "bob": "dan", "any": "all", "pay": "give", "send": "ship"})
                again = [clause.rows_told(), clause.tail(), clause.sort_word(), clause.lets(), clause.leads()]
                self.assertEqual(again, first)
                self.assertEqual(fields_of(clause), was)

    def test_a_renamed_clause_stands_by_itself(self):
        for clause in some_clauses():
            rows = clause.rows_told()
            told = clause.renamed({"ann": "eve"})
            told_rows = told.rows_told()
            told.renamed({"eve": "dan", "pay": "give"})
            clause.renamed({"ann": "joe"})
            self.assertEqual(clause.rows_told(), rows)
            self.assertEqual(told.rows_told(), told_rows)


if __name__ == "__main__":
    unittest.main()
