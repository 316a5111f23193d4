"""The examples of the document, as they stand there."""

from ruleworlds.errors import InvalidRule, Unreadable
from ruleworlds.programs import Program, choice, rule
from ruleworlds.worlds import answers, holds_in, is_answer, pairs
from tests.helpers import Case


class ExamplesTest(Case):

    def test_rule(self):
        self.same(rule(["b", "a"], needs=["c"], bars=["d"]), (("a", "b"), (), ("c",), ("d",)))

    def test_written(self):
        self.same(Program(choice("b"), rule(["a"], bars=["b"])).written(), "a :- not b.\nb | not b.")

    def test_read(self):
        self.same(Program.read("a | not b :- c, not d.").rules, ((("a",), ("b",), ("c",), ("d",)),))

    def test_unreadable(self):
        self.error(Unreadable, "line", 2, Program.read, "a.\na :- a b.")

    def test_properties(self):
        p = Program.read("a | b.")
        self.same([p.names, p.kind, len(p)], [("a", "b"), "plain", 1])

    def test_invalid_rule(self):
        self.error(InvalidRule, "place", 0, Program, ("a",))

    def test_order_and_repetition(self):
        self.same(Program.read("b.\na.\nb.").written(), "a.\nb.")

    def test_line_end_at_the_end(self):
        self.error(Unreadable, "line", 2, Program.read, "a.\n")

    def test_holds_in(self):
        self.same(holds_in(Program.read("a | not a."), ((), ("a",))), False)

    def test_pairs(self):
        self.same(list(pairs(Program.read("a :- b."))),
                  [((), ()), ((), ("a",)), ((), ("a", "b")), (("a",), ("a",)), (("a",), ("a", "b")),
                   (("a", "b"), ("a", "b"))])

    def test_answers(self):
        self.same(answers(Program.read("a :- not b.\nb :- not a.")), [("a",), ("b",)])

    def test_no_answers(self):
        self.same(answers(Program.read("a :- not a.")), [])

    def test_is_answer(self):
        self.same(is_answer(Program.read("a | not a."), ()), True)
