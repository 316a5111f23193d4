"""Founded values and records (points 1, 2, 11, 12 and the section ruleworlds/founded.py)."""

import itertools
import random

from ruleworlds import founded as module
from ruleworlds.errors import NotAProgram, NotBasic
from ruleworlds.founded import check_record, record, values
from ruleworlds.programs import Program, choice, rule
from ruleworlds.worlds import answers
from tests.helpers import (EMPTY_RULE, FACT, Case, all_rules, nested, odd_for, same, short_names, slow_names, subsets,
                           wrong_programs)

A = ("true", FACT)
LOOP = "a :- not b.\nb :- not a."
TEXTS = ["", "a.", "a :- a.", "a :- not a.", "a :- not b.", LOOP, LOOP + "\nc :- a.\nc :- b.", "a :- b.\nb :- a, not c.",
         "a :- not b.\nb :- not c.\nc :- not d.\nd :- not e.", "a :- c, not b.\nb :- not a.\nc.\nd :- not c.",
         "a :- b.\na :- not c.\nb :- a.\nc :- d.\nd :- c.", "a :- not b.\nb :- not a.\nc :- not c.\nd :- e, not a."]


def basic_rules(names):
    return [row for row in all_rules(names) if len(row[0]) == 1 and not row[1]]


def basic_programs(names, most, many, draw):
    """Basic programs, every second one of short rules."""
    rules = basic_rules(names)
    short = [row for row in rules if len(row[2]) + len(row[3]) < 2]
    return [draw.sample((rules, short)[k % 2], draw.randrange(most + 1)) for k in range(many)]


def slow_following(rules, world):
    """The smallest of all sets of names that has each head whose rule is met."""
    def is_closed(names):
        return all(row[0][0] in names for row in rules
                   if set(row[2]) <= set(names) and not set(row[3]) & set(world))
    closed = [names for names in subsets(slow_names(rules)) if is_closed(names)]
    least = min(closed, key=len)
    assert all(set(least) <= set(names) for names in closed)
    return least


def slow_values(rules):
    low = ()
    while True:
        high = slow_following(rules, low)
        again = slow_following(rules, high)
        if again == low:
            break
        low = again
    return {x: True if x in low else None if x in high else False for x in slow_names(rules)}


def slow_step(rules, shown, step):
    """What the step shows, or None if it is not allowed behind steps that have shown this."""
    names = slow_names(rules)
    for row in rules:
        if same(step, ("true", row)):
            is_met = all(shown.get(x) is True for x in row[2]) and all(shown.get(x) is False for x in row[3])
            return {row[0][0]: True} if is_met and row[0][0] not in shown else None
    for world in subsets(names)[1:]:
        if same(step, ("false", world)):
            for row in rules:
                if row[0][0] in world and not any(x in world or shown.get(x) is False for x in row[2]):
                    if not any(shown.get(x) is True for x in row[3]):
                        return None
            return {x: False for x in world} if not set(world) & set(shown) else None
    return None


def slow_problem(rules, thing):
    """The first problem of a record, by the words of the document."""
    if type(thing) is not tuple:
        return ("form",)
    shown = {}
    for place, step in enumerate(thing):
        news = slow_step(rules, shown, step)
        if news is None:
            return ("step", place)
        shown.update(news)
    for name, value in slow_values(rules).items():
        if value is not None and name not in shown:
            return ("missing", name)
    return None


def wrong_basic(names):
    """Rules that no basic program has."""
    return [row for row in all_rules(names) if len(row[0]) != 1 or row[1]]


class ValuesTest(Case):

    def looked_at(self, rules):
        """Look at the values of these rules, and at their record."""
        program = Program(*rules)
        wanted = slow_values(rules)
        self.gives(wanted, values, program)
        self.same(list(values(program)), list(program.names))
        steps = record(program)
        self.assertIs(type(steps), tuple)
        self.same(record(program), steps)
        self.same(slow_problem(rules, steps), None, (rules, steps))
        self.gives(None, check_record, program, steps)
        shown = sorted(x for word, what in steps for x in (what[0] if word == "true" else what))
        self.same(shown, [x for x in program.names if wanted[x] is not None])
        return wanted

    def test_all_programs_of_up_to_two_names_and_two_rules(self):
        rules = basic_rules("ab")
        for many in range(3):
            for rows in itertools.combinations(rules, many):
                self.looked_at(list(rows))

    def test_drawn_programs(self):
        draw = random.Random(30)
        seen = {True: 0, False: 0, None: 0}
        for names, most, many in (("ab", 5, 60), ("abc", 7, 150), ("abcd", 9, 100), ("abcde", 9, 30)):
            for rules in basic_programs(names, most, many, draw):
                for value in self.looked_at(rules).values():
                    seen[value] += 1
        self.assertGreater(min(seen.values()), 100, seen)

    def test_known_programs(self):
        for text in TEXTS:
            self.looked_at(list(Program.read(text).rules))
        self.gives({}, values, Program())
        self.gives({"a": None}, values, Program.read("a :- not a."))
        self.gives({"a": False}, values, Program.read("a :- a."))
        self.gives({"a": False, "b": False, "c": True, "d": False}, values, Program.read("a :- b.\nb :- a, not d.\nc."))
        self.gives({"a": True, "b": False, "c": True, "d": False, "e": False}, values, Program.read(
            "a :- not b.\nb :- not c.\nc :- not d.\nd :- e."))
        self.gives({"a": None, "b": None, "c": None}, values, Program.read(LOOP + "\nc :- a.\nc :- b."))

    def test_what_the_values_tell_of_answers(self):
        draw = random.Random(31)
        for rules in basic_programs("abc", 6, 150, draw):
            program = Program(*rules)
            found = values(program)
            sure = tuple(x for x in found if found[x])
            for world in answers(program):
                self.assertTrue(set(sure) <= set(world) <= {x for x in found if found[x] is not False})
            if None not in found.values():
                self.same(answers(program), [sure])

    def test_each_dict_is_new(self):
        program = Program(FACT)
        found = values(program)
        found["a"] = 7
        found["b"] = 8
        self.same(values(program), {"a": True})
        self.gives(None, check_record, program, (A,))

    def test_names_ascend_whatever_the_rules(self):
        program = Program.read("z :- not y.\nm.\nb :- aa, z.\na :- not m.")
        self.same(list(values(program).items()), [("a", False), ("aa", False), ("b", False), ("m", True), ("y", False),
                                                  ("z", True)])

    def test_by_name(self):
        self.gives({"a": True}, values, program=Program(FACT))
        self.gives((A,), record, program=Program(FACT))
        self.gives(None, check_record, thing=(A,), program=Program(FACT))
        self.gives((), record, Program())

    def test_where_the_functions_stand(self):
        for call in (values, record, check_record):
            self.assertEqual(call.__module__, "ruleworlds.founded")
            self.assertIs(getattr(module, call.__name__), call)


class WrongTest(Case):

    def test_wrong_programs(self):
        for thing in wrong_programs():
            for call in (values, record):
                self.error(NotAProgram, "thing", thing, call, thing)
                self.error(NotAProgram, "thing", thing, call, program=thing)
            for other in ((), None, (A,), thing):
                self.error(NotAProgram, "thing", thing, check_record, thing, other)
            self.error(NotAProgram, "thing", thing, check_record, thing=(), program=thing)

    def test_programs_that_are_not_basic(self):
        for row in wrong_basic("ab"):
            for more in (Program(), Program.read("a.\nb :- not a.")):
                program = Program(row) + more
                for call in (values, record):
                    self.error(NotBasic, "culprit", row, call, program)
                for thing in ((), [], None, (A,), (None,)):
                    self.error(NotBasic, "culprit", row, check_record, program, thing)
        self.error(NotBasic, "culprit", EMPTY_RULE, values, Program(EMPTY_RULE))
        self.error(NotBasic, "culprit", choice("a"), check_record, thing=None, program=Program(choice("a")))

    def test_the_least_culprit_is_named(self):
        draw = random.Random(32)
        for _ in range(100):
            rows = draw.sample(all_rules("ab"), 4)
            bad = [row for row in rows if row in wrong_basic("ab")]
            if bad:
                for call in (values, record):
                    self.error(NotBasic, "culprit", min(bad), call, Program(*rows))
                self.error(NotBasic, "culprit", min(bad), check_record, Program(*rows), None)


class CheckRecordTest(Case):

    def looked_at(self, rules, thing):
        problem = slow_problem(rules, thing)
        self.gives(problem, check_record, Program(*rules), thing)
        return problem

    def all_steps(self, rules):
        """Steps that are allowed somewhere, and some that never are."""
        names = slow_names(rules) + ("x",)
        return [("true", row) for row in rules + [(("x",), (), (), ())]] + [("false", w) for w in subsets(names)]

    def test_all_records_of_two_steps(self):
        for text in TEXTS[:8] + ["a.\nb :- a.", "a :- b, not b.", "a :- b.\nb :- a.", "a :- a, not b.\nb."]:
            rules = list(Program.read(text).rules)
            steps = self.all_steps(rules)[:20]
            for many in range(3):
                for thing in itertools.product(steps, repeat=many):
                    self.looked_at(rules, thing)

    def test_records_that_are_changed(self):
        draw = random.Random(33)
        seen = {}
        for names, most in (("ab", 4), ("abc", 6), ("abcd", 8)):
            for rules in basic_programs(names, most, 60, draw):
                steps = record(Program(*rules))
                for thing in self.changed(draw, rules, steps):
                    problem = self.looked_at(rules, thing)
                    seen[problem and problem[0]] = seen.get(problem and problem[0], 0) + 1
        self.assertGreater(min(seen[word] for word in (None, "step", "missing")), 100, seen)

    def changed(self, draw, rules, steps):
        """Records like this one: parts of it, other orders, single names, and other steps between."""
        yield from (steps[:k] for k in range(len(steps)))
        yield from (steps[:k] + steps[k + 1:] for k in range(len(steps)))
        yield steps + steps[:1]
        yield steps[::-1]
        yield tuple(draw.sample(steps, len(steps)))
        some = self.all_steps(rules)
        for _ in range(4):
            place = draw.randrange(len(steps) + 1)
            yield steps[:place] + (draw.choice(some),) + steps[place:]
            yield tuple(draw.choice(some) for _ in range(3))
        yield tuple(part for step in steps for part in self.one_by_one(step))
        yield tuple(part for step in steps for part in self.one_by_one(step)[::-1])

    def one_by_one(self, step):
        word, what = step
        return [step] if word == "true" else [("false", (name,)) for name in what]

    def test_records_of_other_makings(self):
        # Each name that can be shown is shown as soon as it can, in a drawn order.
        draw = random.Random(34)
        for rules in basic_programs("abc", 6, 100, draw):
            steps, shown = (), {}
            while True:
                ready = [step for step in self.all_steps(rules) if slow_step(rules, shown, step) is not None]
                if not ready:
                    break
                step = draw.choice(ready)
                shown.update(slow_step(rules, shown, step))
                steps += (step,)
                self.looked_at(rules, steps)
            self.gives(None, check_record, Program(*rules), steps)

    def test_things_that_are_no_tuple(self):
        for text in TEXTS[:5]:
            program = Program.read(text)
            for thing in odd_for("", "a", [], [A], [("false", ("b",))], Program(), list(record(program)), {}):
                if type(thing) is not tuple:
                    self.gives(("form",), check_record, program, thing)

    def test_items_that_are_no_steps(self):
        program = Program.read("a.\nb :- not a.\nc :- d.")
        falls = (("false", ("b",)), ("false", ("c", "d")))
        wrong = odd_for("", (), [], "a", FACT, Program(), ["true", FACT], ("true",), ("true", FACT, ()), ("true", "a"),
                        ("true", ("a",)), ("true", list(FACT)), ("false", "b"), ("false", ["b"]), ("false", ()),
                        ("false", ("b", "b")), ("false", ("d", "c")), ("false", ("x",)), ("false", ("b", "x")),
                        ("false", FACT), ("false", "c"), ("True", FACT), (True, FACT), (False, ("b",)), (1, FACT),
                        ("", FACT), ("open", ("b",)), (None, ("b",)), ("missing", "a"), (FACT, "true"), ("true", program),
                        ("false", program), ("true", {"rule": FACT}), (("true",), FACT), ("true", (FACT,)),
                        ("true", EMPTY_RULE), ("true", rule(["a"], ["a"])), ("true", rule(["b"])), ("true", None),
                        ("true", (("a",), (), (), [])), ("true", nested(tuple, 48)), ("false", nested(list, 48)),
                        (Program(), FACT), ("trueish", FACT), (["true"], FACT), ("false", ("not",)), ("false", None))
        for thing in wrong:
            self.gives(("step", 0), check_record, program, (thing,))
            self.gives(("step", 0), check_record, program, (thing, A) + falls)
            self.gives(("step", 1), check_record, program, (A, thing) + falls)
            self.gives(("step", 3), check_record, program, (A,) + falls + (thing,))
        self.gives(None, check_record, program, (A,) + falls)

    def test_records_that_are_empty_or_unfinished(self):
        self.gives(None, check_record, Program(), ())
        self.gives(None, check_record, Program.read("a :- not a."), ())
        self.gives(None, check_record, Program.read(LOOP), ())
        program = Program.read("a.\nb :- not a.\nc :- d.\ne :- not e.")
        for thing, name in (((), "a"), ((A,), "b"), ((A, ("false", ("b",))), "c"), ((A, ("false", ("b", "d"))), "c"),
                            ((("false", ("c", "d")),), "a"), ((A, ("false", ("c", "d"))), "b"),
                            ((A, ("false", ("b",)), ("false", ("d",))), "c")):
            self.gives(("missing", name), check_record, program, thing)
        self.gives(None, check_record, program, (A, ("false", ("b", "c", "d"))))
        self.gives(("step", 1), check_record, program, (A, ("false", ("c",))))
        self.gives(("step", 2), check_record, program, (A, ("false", ("b", "d")), ("false", ("c", "e"))))

    def test_no_name_is_shown_twice(self):
        program = Program.read("a.\na :- not b.\nc :- b.")
        other = ("true", rule(["a"], bars=["b"]))
        falls = ("false", ("b", "c"))
        for thing, problem in (((A, A), ("step", 1)), ((falls, other, A), ("step", 2)), ((A, falls, other), ("step", 2)),
                               ((A, falls, falls), ("step", 2)), ((falls, other), None), ((A, falls), None),
                               ((A, ("false", ("b",)), falls), ("step", 2)), ((A, ("false", ("b",))), ("missing", "c")),
                               ((A, ("false", ("b",)), ("false", ("c",))), None), ((falls, falls), ("step", 1)),
                               ((("false", ("c",)), ("false", ("b",)), A), ("step", 0))):
            self.gives(problem, check_record, program, thing)

    def test_names_that_fall_together(self):
        program = Program.read("a :- b.\nb :- c.\nc :- a.\nc :- d, not e.\ne.")
        fact = ("true", rule(["e"]))
        for names, problem in ((("a", "b", "c"), ("step", 0)), (("a", "b", "c", "d"), None), (("a", "b"), ("step", 0)),
                               (("d",), ("missing", "a")), (("a", "b", "c", "d", "e"), ("step", 0))):
            wanted = ("missing", "e") if problem is None else problem
            self.gives(wanted, check_record, program, (("false", names),))
        self.gives(None, check_record, program, (fact, ("false", ("a", "b", "c")), ("false", ("d",))))
        self.gives(None, check_record, program, (("false", ("d",)), ("false", ("a", "b", "c")), fact))

    def test_a_rule_that_is_its_own_reason(self):
        program = Program.read("a :- a.\nb :- not b.")
        self.gives(("step", 0), check_record, program, (("true", rule(["a"], ["a"])),))
        self.gives(("step", 0), check_record, program, (("true", rule(["b"], bars=["b"])),))
        self.gives(("step", 0), check_record, program, (("false", ("b",)),))
        self.gives(None, check_record, program, (("false", ("a",)),))


class LimitTest(Case):

    def test_chains_of_ten_names(self):
        names = short_names(10)
        chain = Program(*[rule([x], bars=[y]) for x, y in zip(names, names[1:])])
        wanted = {name: k % 2 == 0 for k, name in enumerate(reversed(names), start=1)}
        self.same(self.timed(values, chain), {name: wanted[name] for name in names})
        self.same(self.timed(check_record, chain, self.timed(record, chain)), None)
        chain = Program(*[rule([y], [x]) for x, y in zip(names, names[1:])]) + Program.facts(names[:1])
        self.same(self.timed(values, chain), {name: True for name in names})
        self.same(len(self.timed(record, chain)), 10)

    def test_sixty_rules_of_ten_names(self):
        names = short_names(10)
        draw = random.Random(35)
        for _ in range(20):
            rows = [((draw.choice(names),), (), tuple(sorted(draw.sample(names, draw.randrange(3)))),
                     tuple(sorted(draw.sample(names, draw.randrange(3))))) for _ in range(60)]
            program = Program(*rows)
            steps = self.timed(record, program)
            self.same(self.timed(check_record, program, steps), None)
            found = self.timed(values, program)
            self.same([x for x in found if found[x] is not None],
                      sorted(x for word, what in steps for x in (what[0] if word == "true" else what)))
            self.same(self.timed(check_record, program, steps * 100), ("step", len(steps)) if steps else None)

    def test_no_limit_is_checked(self):
        names = short_names(40)
        program = Program.facts(names)
        self.same(values(program), {name: True for name in names})
        self.same(check_record(program, record(program)), None)
