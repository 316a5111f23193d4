"""The examples of the document, as they stand there."""

from ruleworlds.alike import alike, check_parting, follows
from ruleworlds.bases import base, bases, conflicts, cures, spare
from ruleworlds.desk import Desk
from ruleworlds.errors import (Barred, InvalidDeed, InvalidRule, NoAnswer, NoSuchSheet, NotASplit, NotBasic,
                               Unreadable)
from ruleworlds.founded import check_record, values
from ruleworlds.layers import all_answers, layers, lower, possible, rest, splits, sure
from ruleworlds.makes import barred, program_of
from ruleworlds.programs import Program, choice, rule
from ruleworlds.worlds import answers, holds_in, is_answer, pairs
from tests.helpers import Case


class ExamplesTest(Case):

    def test_rule(self):
        self.same(rule(["b", "a"], needs=["c"], bars=["d"]), (("a", "b"), (), ("c",), ("d",)))

    def test_written(self):
        self.same(Program(choice("b"), rule(["a"], bars=["b"])).written(), "a :- not b.\nb | not b.")

    def test_read(self):
        self.same(Program.read("a | not b :- c, not d.").rules, ((("a",), ("b",), ("c",), ("d",)),))

    def test_unreadable(self):
        self.error(Unreadable, "line", 2, Program.read, "a.\na :- a b.")

    def test_properties(self):
        p = Program.read("a | b.")
        self.same([p.names, p.kind, len(p)], [("a", "b"), "plain", 1])

    def test_invalid_rule(self):
        self.error(InvalidRule, "place", 0, Program, ("a",))

    def test_order_and_repetition(self):
        self.same(Program.read("b.\na.\nb.").written(), "a.\nb.")

    def test_line_end_at_the_end(self):
        self.error(Unreadable, "line", 2, Program.read, "a.\n")

    def test_holds_in(self):
        self.same(holds_in(Program.read("a | not a."), ((), ("a",))), False)

    def test_pairs(self):
        self.same(list(pairs(Program.read("a :- b."))),
                  [((), ()), ((), ("a",)), ((), ("a", "b")), (("a",), ("a",)), (("a",), ("a", "b")),
                   (("a", "b"), ("a", "b"))])

    def test_answers(self):
        self.same(answers(Program.read("a :- not b.\nb :- not a.")), [("a",), ("b",)])

    def test_no_answers(self):
        self.same(answers(Program.read("a :- not a.")), [])

    def test_is_answer(self):
        self.same(is_answer(Program.read("a | not a."), ()), True)

    def test_alike(self):
        one = Program.read("a | b.")
        other = Program.read("a :- not b.\nb :- not a.")
        self.same([alike(one, other, "nothing"), alike(one, other) is None], [None, False])

    def test_check_parting(self):
        one = Program.read("a | b.")
        other = Program.read("a :- not b.\nb :- not a.")
        part = Program.read("a :- b.\nb :- a.")
        self.same(check_parting(one, other, (part, ("a", "b"))), True)

    def test_alike_without_rules(self):
        self.same(alike(Program.read("a :- a."), Program()), None)

    def test_follows(self):
        self.same(follows(Program.read("a."), rule(["a", "b"])), None)
        self.same(follows(Program(), rule(["a"])), ((), ()))

    def test_a_part_with_another_name(self):
        self.same(check_parting(Program(), Program.read("a."), (Program.facts(("b",)), ("b",))), False)

    def test_barred(self):
        self.same(barred([((), ("a",))], ("a",)), ("total", ((), ("a",))))
        self.same(barred([((), ()), (("a",), ("a",))], ("a",), "plain"), ("upward", ((), ()), ("a",)))

    def test_program_of(self):
        p = program_of([((), ()), (("a",), ("a",))], ("a",))
        self.same(list(pairs(p)), [((), ()), (("a",), ("a",))])

    def test_program_of_what_is_barred(self):
        self.error(Barred, "why", ("total", ((), ("a",))), program_of, [((), ("a",))], ("a",))

    def test_barred_from_single_ones(self):
        rows = [(("a",), ("a",)), (("a",), ("a", "b")), (("a", "b"), ("a", "b")), (("b",), ("a", "b")),
                (("b",), ("b",))]
        self.same(barred(rows, ("a", "b"), "single"), ("meet", (("a",), ("a", "b")), (("b",), ("a", "b"))))

    def test_values(self):
        self.same(values(Program.read("a :- not b.") + Program.read("b :- not a.") + Program.read("c.")),
                  {"a": None, "b": None, "c": True})
        self.same(values(Program.read("a :- not b.")), {"a": True, "b": False})

    def test_not_basic(self):
        self.error(NotBasic, "culprit", (("a", "b"), (), (), ()), values, Program.read("a | b."))

    def test_check_record(self):
        program = Program.read("a :- not b.")
        self.same(check_record(program, (("false", ("b",)), ("true", (("a",), (), (), ("b",))))), None)
        self.same(check_record(program, (("true", (("a",), (), (), ("b",))),)), ("step", 0))
        self.same(check_record(program, (("false", ("b",)),)), ("missing", "a"))

    def test_splits_and_parts(self):
        program = Program.read("a :- not b.")
        self.same([splits(program, ("b",)), splits(program, ("a",))], [True, False])
        self.same(rest(program, ("b",), ()).written(), "a.")
        self.error(NotASplit, "thing", ("a",), lower, program, ("a",))

    def test_layers(self):
        self.same(layers(Program.read("a :- b.") + Program.read("c :- not c.")), [("b",), ("a",), ("c",)])

    def test_all_answers(self):
        self.same(list(all_answers(Program.read("a :- not b.") + Program.read("b :- not a."))), [("a",), ("b",)])

    def test_sure_and_possible(self):
        program = Program.read("a | b.") + Program.read("c :- a.") + Program.read("c :- b.")
        self.same([sure(program), possible(program)], [("c",), ("a", "b", "c")])
        self.assertRaises(NoAnswer, sure, Program.read("a :- not a."))

    def test_spare_rules_and_bases(self):
        program = Program.read("a.") + Program.read("a :- b.")
        self.same(spare(program), ((("a",), (), ("b",), ()),))
        self.same([part.written() for part in bases(program)], ["a."])
        self.same(base(Program.read("a :- a.")).written(), "")

    def test_conflicts_and_cures(self):
        program = Program.read("a.") + Program.read(":- a.") + Program.read("b.")
        self.same([[len(part) for part in conflicts(program)], [part.written() for part in cures(program)]],
                  [[2], [":- a.", "a."]])

    def test_desk(self):
        desk = Desk()
        desk.put("one", Program.read("a."))
        desk.put("two", Program.read("a :- b."))
        self.same(desk.change(), "nothing")

    def test_a_change_of_all(self):
        desk = Desk()
        desk.put("one", Program.read("a :- not b."))
        desk.put("one", Program.read("a | b."))
        self.same(desk.change(), "all")

    def test_a_sheet_that_is_off(self):
        desk = Desk()
        desk.put("one", Program.read("a."))
        desk.switch("one")
        self.same([desk.sheets, desk.lit, len(desk.whole)], [("one",), (), 0])

    def test_a_deed_that_is_refused(self):
        self.error(InvalidDeed, "place", 1, Desk().do, ("put", "one", Program.read("a.")), ("drop", "two"))
        self.error(NoSuchSheet, "sheet", "one", Desk().drop, "one")
