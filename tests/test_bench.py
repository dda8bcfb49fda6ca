"""Stage 14, [14.1] and [14.2]: pledges and benches."""

import unittest

from tests.force import drawn_plan, drawn_questions, fraction
from tests.samples import LONGEST, PLAN, STAR, THREE, TRI, Strict, all_kinds, kinds_but
from touchrows.base.questions import Question
from touchrows.base.ratios import Ratio
from touchrows.best.least import bill
from touchrows.best.nested import is_constant
from touchrows.errors import (
    InvalidNumber, InvalidOperation, InvalidPlan, InvalidQuestion, InvalidView, NothingToUndo, Refused, TooMany, UnknownName,
)
from touchrows.plan.plans import Plan, flat_plan
from touchrows.use.bench import MAX_PLEDGES, Bench
from touchrows.weigh.rooms import degrees, plan_degree, plan_room

FLAT = flat_plan(TRI)
RS = ("r", "s")
HALF = Ratio(1, 2)
NO_PLEDGES = (
    ("degree",), ("degree", "r"), ("degree", "r", (1, 1), None), ("degree", "r", [1, 1]), ("degree", "r", (1,)), ("degree", "r", (1, 1, 1)),
    ("degree", "r", (2, 2)), ("degree", "r", (0, 2)), ("degree", "r", (-1, 1)), ("degree", "r", (1, 0)), ("degree", "r", (1, -1)),
    ("degree", "r", (True, 1)), ("degree", "r", (1, True)), ("degree", "r", ("1", 1)), ("degree", "r", (LONGEST + 1, 1)), ("degree", "r", "1"),
    ("degree", "r", Ratio(1, 1)), ("degree", "r", 1), ("degree", "R", (1, 1)), ("degree", "", (1, 1)), ("degree", None, (1, 1)),
    ("degree", ("r",), (1, 1)), ("degree", "abcdefghi", (1, 1)), ("degree", (1, 1), "r"), ("all",), ("all", "r", (1, 1)), ("all", (2, 4)),
    ("all", (-1, 2)), ("all", (1, 1), (1, 1)), ("all", None), ("room",), ("room", "r"), ("room", (0, 0)), ("room", (1, 1), None),
    ("room", (False, 1)), ("constant", None), ("constant", ()), ("Constant",), ("constant", (1, 1)), ["constant"], "constant", ("answers",),
    ("answers", ()), ("answers", list(TRI.lines)), ("answers", TRI), ("answers", TRI.lines, None), ("answers", TRI.lines[::-1]),
    ("answers", (*TRI.lines, "size r 1")), ("answers", TRI.lines[:2] + ("table t c a",)), ("answers", ("table r a", "group b")),
    ("answers", ("table r a", "table r a")), ("answers", ("table r",)), ("answers", (None,)), ("answers", None), ("answers", 1), ("answers", True), ("answers", "table r a b"),
    ("answers", tuple(f"table {name} a" for name in "pqrstuv")), ("answers", ("table r a", "size r 10")), ("answers", ("group a", "table r a")),
    ("answers", ("size r 1/2", "table r a")), ("answers", (1, 2)), ("", (1, 1)), (None,), ((),), ("degrees", (1, 1)),
)


def seen(bench):
    """All that a bench tells of itself, and what it can take back and do again."""
    told = [bench.plan, bench.question, bench.costs, bench.pledges, len(bench), list(bench), str(bench)]
    back, ahead = [], []
    twin = bench.twin()
    while True:
        try:
            back.append((twin.undo(), twin.plan, twin.pledges))
        except NothingToUndo:
            break
    twin = bench.twin()
    while True:
        try:
            ahead.append((twin.redo(), twin.plan, twin.pledges))
        except NothingToUndo:
            break
    return told, back, ahead


def holds_by_force(pledge, plan):
    question = plan.question
    if pledge[0] == "constant":
        return is_constant(plan)
    if pledge[0] == "answers":
        told = Question.from_lines(*pledge[1])
        return (told.tables, told.groups) == (question.tables, question.groups)
    limit = fraction(Ratio(*pledge[-1]))
    if pledge[0] == "degree":
        return pledge[1] in question and fraction(degrees(plan)[pledge[1]]) <= limit
    return fraction(plan_degree(plan) if pledge[0] == "all" else plan_room(plan)) <= limit


class Model:
    """A bench as a list of plans and pledges, made anew each time."""

    def __init__(self, plan):
        self.stands, self.at = [(plan, ())], 0

    def step(self, plan, pledges):
        before = bill(self.stands[self.at][0])
        self.stands[self.at + 1:] = [(plan, pledges)]
        self.at += 1
        return () if bill(plan) == before else (before, bill(plan))

    def move(self, many):
        before = bill(self.stands[self.at][0])
        self.at += many
        after = bill(self.stands[self.at][0])
        return () if before == after else (before, after)


def drawn_call(draw, plan):
    """A drawn call: the name of the method, and what it is passed."""
    question, names = plan.question, plan.question.names
    view = tuple(sorted(draw.sample(names, draw.randint(1, len(names)))))
    limit = draw.choice([(0, 1), (1, 2), (1, 1), (3, 2), (9, 1), plan_degree(plan).pair, plan_room(plan).pair])
    lines = draw.choice([question, question.with_groups(()), question.with_size(names[0], HALF)]).lines
    pledge = draw.choice([("degree", draw.choice((*names, "zz")), limit), ("all", limit), ("room", limit), ("constant",), ("answers", lines)])
    groups = tuple(column for column in question.columns if draw.random() < 0.5)
    return draw.choice([
        ("draw", view), ("draw", view), ("erase", view), ("erase", draw.choice(plan.views)), ("regroup", draw.choice((groups, groups[::-1]))),
        ("resize", draw.choice((*names, "zz")), draw.choice((HALF, Ratio(1, 1), Ratio(2, 1), Ratio(10, 1)))), ("demand", pledge), ("demand", pledge),
        ("waive", pledge),
    ])


def changed_plan(plan, word, given):
    if word in ("draw", "erase"):
        return (plan.with_view if word == "draw" else plan.without_view)(*given)
    question = plan.question
    return plan.over((question.with_size if word == "resize" else question.with_groups)(*given))


class Drawn(Strict, unittest.TestCase):
    def check_call(self, bench, model, word, given):
        """Carry out one call in both; what it was answered with."""
        (plan, pledges), before = model.stands[model.at], seen(bench)
        error = None
        try:
            if word == "demand":
                if given[0] in pledges:
                    raise InvalidOperation("there")
                if len(pledges) == 10:
                    raise TooMany(10)
                after, kept = plan, (*pledges, *given)
            elif word == "waive":
                if given[0] not in pledges:
                    raise InvalidOperation("not there")
                after, kept = plan, tuple(one for one in pledges if one != given[0])
            else:
                after, kept = changed_plan(plan, word, given), pledges
            for pledge in kept:
                if not holds_by_force(pledge, after):
                    raise Refused(pledge)
        except (InvalidView, InvalidQuestion, InvalidOperation, UnknownName, TooMany, Refused) as wanted:
            error = wanted
        if error is None:
            self.assertSame(getattr(bench, word)(*given), model.step(after, kept))
            return "done"
        told = self.assertFails(type(error), getattr(bench, word), *given)
        if isinstance(error, Refused):
            self.assertSame(told.pledge, error.pledge)
        self.assertEqual(seen(bench), before)
        return type(error).__name__

    def check_moved(self, draw, bench, model):
        many = draw.choice((0, 1, 1, 2, 3, 50))
        call, room, sign = draw.choice([(bench.undo, model.at, -1), (bench.redo, len(model.stands) - 1 - model.at, 1)])
        if many > room:
            before = seen(bench)
            self.assertKeeps(NothingToUndo, "many", many, call, many=many)
            self.assertEqual(seen(bench), before)
        else:
            self.assertSame(call(many=many), model.move(sign * many))

    def test_drawn_calls(self):
        answers = set()
        for draw, question in drawn_questions(100, "bench", most=5, sizes=True):
            plan = drawn_plan(draw, question)
            bench, model = Bench(plan), Model(plan)
            for _ in range(30):
                if draw.random() < 0.2:
                    self.check_moved(draw, bench, model)
                else:
                    word, *given = drawn_call(draw, bench.plan)
                    answers.add((word, self.check_call(bench, model, word, given)))
                plan, pledges = model.stands[model.at]
                fresh = Plan(Question(bench.question.tables, bench.question.groups, sizes=bench.question.sizes), bench.plan.views)
                self.assertEqual([bench.plan, fresh, bench.question], [plan, plan, plan.question])
                self.assertSame([bench.costs, bench.pledges], [bill(fresh), pledges])
                self.assertSame([list(bench), len(bench)], [list(plan.views), len(plan)])
                self.assertEqual(str(bench), f"bench of {plan.text}, {len(pledges)} pledges")
        wanted = {(word, answer) for word in ("erase", "resize", "regroup") for answer in ("done", "Refused")} | {("draw", "done")}
        wanted |= {("draw", "InvalidOperation"), ("erase", "InvalidOperation"), ("resize", "UnknownName"), ("resize", "InvalidQuestion"),
                   ("regroup", "InvalidQuestion"), ("demand", "done"), ("demand", "Refused"), ("demand", "InvalidOperation"), ("waive", "done"),
                   ("waive", "InvalidOperation")}
        self.assertLessEqual(wanted, answers)


class Pledges(Strict, unittest.TestCase):
    def both_sides(self, plan, inside, outside):
        bench = Bench(plan)
        for pledge in inside:
            self.assertSame(bench.demand(pledge), ())
        for pledge in outside:
            self.assertKeeps(Refused, "pledge", pledge, bench.demand, pledge)
        self.assertSame(bench.pledges, tuple(inside))

    def test_both_sides(self):
        ratio = Plan(TRI.with_groups(("a", "b", "c")).with_table("u", ("d",)), ())
        self.assertSame(bill(ratio), ((1, 1), (1, 1), (1, 1), (3, 2)))
        inside = [("degree", "u", (3, 2)), ("degree", "u", (LONGEST, LONGEST - 1)), ("degree", "r", (1, 1)), ("all", (3, 2)), ("room", (3, 2)), ("room", (2, 1))]
        self.both_sides(ratio, inside[:1] + inside[2:], [
            ("degree", "u", (1, 1)), ("degree", "u", (149, 100)), ("degree", "u", (LONGEST, LONGEST - 1)), ("degree", "r", (999, 1000)),
            ("degree", "zz", (9, 1)), ("all", (1, 1)), ("room", (149, 100)), ("constant",),
        ])
        self.both_sides(flat_plan(STAR), [("constant",), ("all", (0, 1)), ("degree", "u", (0, 1)), ("room", (1, 1))], [("room", (1, 2)), ("room", (0, 1))])
        self.both_sides(PLAN, [("degree", "t", (0, 1)), ("all", (1, 1))], [("degree", "r", (1, 2)), ("all", (1, 2)), ("constant",)])

    def test_answers(self):
        sized = TRI.with_size("r", HALF)
        self.both_sides(PLAN, [("answers", TRI.lines), ("answers", sized.lines)], [
            ("answers", TRI.with_groups(("a",)).lines), ("answers", TRI.with_table("u", ("a",)).lines), ("answers", TRI.with_table("t", ("a",)).lines),
            ("answers", TRI.without_table("t").lines), ("answers", STAR.lines),
        ])
        bench = Bench(PLAN)
        bench.demand(("answers", sized.lines))
        self.assertSame(bench.resize("s", HALF), (((1, 1), (1, 1), (0, 1)), ((1, 2), (1, 1), (0, 1))))
        self.assertKeeps(Refused, "pledge", ("answers", sized.lines), bench.regroup, ("a",))
        self.assertSame(bench.regroup(()), ())

    def test_views_that_are_refused(self):
        bench = Bench(flat_plan(TRI))
        bench.demand(("room", (1, 1)))
        before = seen(bench)
        for view in (RS, ("r", "t"), ("s", "t")):
            self.assertKeeps(Refused, "pledge", ("room", (1, 1)), bench.draw, view)
        self.assertEqual(seen(bench), before)
        star = Bench(flat_plan(STAR))
        star.demand(("constant",))
        self.assertSame([star.draw(("r", "u")), star.erase(("r", "u")), star.resize("r", Ratio(9, 1))], [(), (), ()])
        self.assertKeeps(Refused, "pledge", ("constant",), star.regroup, ("a", "b"))

    def test_what_is_none(self):
        bench = Bench(PLAN)
        bench.demand(("all", (1, 1)))
        for value in (*NO_PLEDGES, *all_kinds()):
            self.assertFails(InvalidOperation, bench.demand, value)
            self.assertFails(InvalidOperation, bench.waive, value)
        self.assertSame(bench.pledges, (("all", (1, 1)),))

    def test_true_is_not_one(self):
        bench = Bench(PLAN)
        bench.demand(("all", (1, 1)))
        bench.demand(("degree", "t", (0, 1)))
        for value in (("all", (True, 1)), ("all", (1, True)), ("degree", "t", (False, 1)), ("degree", "t", (0, True))):
            self.assertIs(value in bench, False)
            self.assertFails(InvalidOperation, bench.waive, value)
            self.assertFails(InvalidOperation, bench.demand, value)
        self.assertSame(bench.waive(("all", (1, 1))), ())

    def test_twice(self):
        bench = Bench(PLAN)
        bench.demand(("all", (1, 1)))
        self.assertFails(InvalidOperation, bench.demand, ("all", (1, 1)))
        bench.waive(("all", (1, 1)))
        self.assertFails(InvalidOperation, bench.waive, ("all", (1, 1)))
        self.assertSame(bench.demand(("all", (1, 1))), ())

    def test_ten_and_one_more(self):
        bench = Bench(PLAN)
        for number in range(MAX_PLEDGES):
            bench.demand(("all", (number + 1, 1)))
        self.assertSame(len(bench.pledges), 10)
        before = seen(bench)
        self.assertKeeps(TooMany, "limit", 10, bench.demand, ("all", (11, 1)))
        self.assertKeeps(TooMany, "limit", 10, bench.demand, ("all", (0, 1)))
        self.assertFails(InvalidOperation, bench.demand, ("all", (1, 1)))
        self.assertFails(InvalidOperation, bench.demand, None)
        self.assertEqual(seen(bench), before)
        bench.waive(("all", (3, 1)))
        self.assertKeeps(Refused, "pledge", ("all", (0, 1)), bench.demand, ("all", (0, 1)))
        self.assertSame(bench.demand(("all", (11, 1))), ())
        self.assertSame(bench.pledges[-1], ("all", (11, 1)))

    def test_first_in_the_order_of_demands(self):
        pledges = [("room", (2, 1)), ("degree", "t", (0, 1)), ("all", (1, 1)), ("answers", TRI.lines)]
        for order in (pledges, pledges[::-1], pledges[2:] + pledges[:2]):
            bench = Bench(PLAN)
            for pledge in order:
                bench.demand(pledge)
            wrong = [pledge for pledge in order if pledge[0] != "all"]
            self.assertKeeps(Refused, "pledge", next(one for one in order if one[0] in ("degree",)), bench.erase, RS)
            self.assertKeeps(Refused, "pledge", next(one for one in wrong if one[0] in ("answers", "degree")), bench.regroup, ("a", "b", "c"))
            self.assertKeeps(Refused, "pledge", next(one for one in order if one[0] in ("room", "all")), bench.resize, "r", Ratio(5, 1))


class Back(Strict, unittest.TestCase):
    def test_several_at_once(self):
        bench = Bench(FLAT)
        bench.draw(RS)
        bench.demand(("degree", "t", (0, 1)))
        bench.resize("t", HALF)
        bench.waive(("degree", "t", (0, 1)))
        bench.erase(RS)
        after, costs = seen(bench), bench.costs
        news = bench.undo(many=5)
        self.assertSame(news, (costs, ((1, 1),) * 3))
        self.assertEqual((bench.plan, bench.pledges), (FLAT, ()))
        self.assertSame(bench.redo(many=2), (((1, 1),) * 3, ((1, 1), (1, 1), (0, 1))))
        self.assertSame(bench.pledges, (("degree", "t", (0, 1)),))
        self.assertSame(bench.redo(many=3), (((1, 1), (1, 1), (0, 1)), costs))
        self.assertEqual(seen(bench), after)

    def test_ends(self):
        bench = Bench(FLAT)
        self.assertSame([bench.undo(many=0), bench.redo(many=0)], [(), ()])
        self.assertKeeps(NothingToUndo, "many", 1, bench.undo)
        self.assertKeeps(NothingToUndo, "many", 1, bench.redo)
        bench.draw(RS)
        self.assertKeeps(NothingToUndo, "many", 2, bench.undo, many=2)
        self.assertKeeps(NothingToUndo, "many", 1, bench.redo)
        bench.undo()
        self.assertKeeps(NothingToUndo, "many", 1, bench.undo)
        self.assertKeeps(NothingToUndo, "many", LONGEST, bench.redo, many=LONGEST)
        self.assertSame(bench.undo(many=0), ())
        self.assertSame(bench.redo(), (((1, 1),) * 3, ((1, 1), (1, 1), (0, 1))))

    def test_no_numbers(self):
        bench = Bench(FLAT)
        bench.draw(RS)
        for value in [*kinds_but(int), -1, -LONGEST, LONGEST + 1, 10 ** 99]:
            self.assertKeeps(InvalidNumber, "value", value, bench.undo, many=value)
            self.assertKeeps(InvalidNumber, "value", value, bench.redo, many=value)
        self.assertFails(TypeError, bench.undo, 1)
        self.assertFails(TypeError, bench.redo, 1)

    def test_behind_a_new_change(self):
        bench = Bench(FLAT)
        bench.draw(RS)
        bench.undo()
        self.assertFails(InvalidOperation, bench.erase, RS)
        bench.demand(("all", (1, 1)))
        self.assertKeeps(NothingToUndo, "many", 1, bench.redo)
        bench.undo()
        self.assertSame(bench.redo(), ())
        self.assertSame(bench.pledges, (("all", (1, 1)),))

    def test_changes_that_leave_all_equal(self):
        bench = Bench(FLAT)
        self.assertSame([bench.resize("r", Ratio(1, 1)), bench.regroup(())], [(), ()])
        self.assertEqual(bench.plan, FLAT)
        self.assertSame(bench.undo(many=2), ())
        self.assertKeeps(NothingToUndo, "many", 3, bench.redo, many=3)


class Trials(Strict, unittest.TestCase):
    def setUp(self):
        self.bench = Bench(FLAT)
        self.bench.demand(("all", (1, 1)))
        self.bench.draw(RS)
        self.bench.resize("t", HALF)
        self.bench.undo()
        self.before = seen(self.bench)

    def tearDown(self):
        self.assertEqual(seen(self.bench), self.before)

    def disturb(self, bench):
        bench.redo()
        bench.undo(many=2)
        bench.waive(("all", (1, 1)))
        bench.regroup(("a", "b", "c"))

    def test_without_an_error(self):
        with self.bench.trial() as same:
            self.assertIs(same, self.bench)
            self.disturb(same)
            self.assertEqual((same.pledges, same.question.groups), ((), ("a", "b", "c")))

    def test_with_an_error(self):
        for error in (KeyError, Refused):
            with self.assertRaises(error):
                with self.bench.trial() as same:
                    self.disturb(same)
                    raise error("x")
        with self.assertRaises(InvalidOperation):
            with self.bench.trial():
                self.bench.erase(RS)
                self.bench.erase(RS)

    def test_one_in_another(self):
        with self.bench.trial() as outer:
            outer.undo()
            middle = seen(outer)
            with outer.trial() as inner:
                self.assertIs(inner, self.bench)
                self.disturb_again(inner)
            self.assertEqual(seen(outer), middle)
            with self.assertRaises(ValueError):
                with outer.trial():
                    outer.redo()
                    raise ValueError
            self.assertEqual(seen(outer), middle)

    def disturb_again(self, bench):
        bench.waive(("all", (1, 1)))
        bench.draw(("r", "t"))

    def test_one_trial_entered_twice(self):
        trial = self.bench.trial()
        with trial:
            self.bench.erase(RS)
            middle = seen(self.bench)
            with trial:
                self.bench.draw(("r", "t"))
            self.assertEqual(seen(self.bench), middle)
        self.assertEqual(seen(self.bench), self.before)
        self.bench.erase(RS)
        middle = seen(self.bench)
        with trial:
            self.disturb_again(self.bench)
        self.assertEqual(seen(self.bench), middle)
        self.before = middle

    def test_begins_with_the_block(self):
        trial = self.bench.trial()
        self.bench.erase(RS)
        self.before = seen(self.bench)
        with trial as same:
            same.draw(RS)

    def test_during(self):
        told = []
        self.assertSame(self.bench.during(lambda same: [told.append(same), self.disturb(same), same.pledges]), [None, None, ()])
        self.assertIs(told[0], self.bench)
        self.assertFails(InvalidView, self.bench.during, lambda same: [same.erase(RS), same.draw(None)])
        self.assertIsNone(self.bench.during(lambda same: None))
        self.assertSame(self.bench.during(lambda same: same.during(lambda one: one.erase(RS))), self.bench.during(lambda same: same.erase(RS)))


class Objects(Strict, unittest.TestCase):
    def test_twins(self):
        bench = Bench(FLAT)
        bench.draw(RS)
        bench.demand(("all", (1, 1)))
        bench.undo()
        twin = bench.twin()
        before = seen(bench)
        self.assertIs(type(twin), Bench)
        self.assertEqual(seen(twin), before)
        twin.undo()
        twin.regroup(("a",))
        self.assertEqual(seen(bench), before)
        other = bench.twin()
        bench.redo()
        bench.waive(("all", (1, 1)))
        self.assertEqual(seen(other), before)
        with bench.trial():
            inner = bench.twin()
            bench.undo(many=3)
        self.assertEqual(seen(inner), seen(bench))

    def test_membership(self):
        bench = Bench(PLAN)
        bench.demand(("all", (1, 1)))
        bench.demand(("constant",)) if is_constant(PLAN) else None
        for value in (*PLAN.views, ("all", (1, 1))):
            self.assertIs(value in bench, True)
        for value in (*NO_PLEDGES, *all_kinds(), ("r", "t"), ("all", (1, 2)), ("constant",), ("r",) * 2, object()):
            self.assertIs(value in bench, False)

    def test_equality(self):
        bench, other = Bench(PLAN), Bench(FLAT)
        self.assertIs(bench == other, False)
        other.draw(RS)
        self.assertIs(bench == other, True)
        self.assertIs(bench != other, False)
        other.demand(("all", (1, 1)))
        self.assertIs(bench == other, False)
        self.assertIs(bench != other, True)
        bench.demand(("all", (1, 1)))
        self.assertIs(bench == other, True)
        for value in [*all_kinds(), object(), bench.plan, Bench(flat_plan(STAR))]:
            self.assertIs(bench == value, False)
            self.assertIs(value == bench, False)
            self.assertIs(bench != value, True)

    def test_properties_are_not_assigned(self):
        bench = Bench(PLAN)
        for name in ("plan", "question", "costs", "pledges"):
            with self.assertRaises(AttributeError):
                setattr(bench, name, ())

    def test_example(self):
        bench = Bench(flat_plan(TRI))
        told = [bench.demand(("all", (1, 1))), bench.draw(RS), bench.demand(("degree", "t", (0, 1))), str(bench), bench.resize("t", HALF)]
        self.assertSame(told, [(), (((1, 1), (1, 1), (1, 1)), ((1, 1), (1, 1), (0, 1))), (), "bench of ((r s) t), 2 pledges", ()])
        self.assertFails(Refused, bench.erase, RS)
        told = [bench.costs, bench.undo(many=4), ("all", (1, 1)) in bench, len(bench), bench.during(lambda same: same.draw(("r", "t")))[1]]
        self.assertSame(told, [((1, 1), (1, 1), (0, 1)), (((1, 1), (1, 1), (0, 1)), ((1, 1), (1, 1), (1, 1))), False, 4, ((1, 1), (0, 1), (1, 1))])


class Errors(Strict, unittest.TestCase):
    def setUp(self):
        self.bench = Bench(PLAN)
        self.bench.demand(("degree", "t", (0, 1)))
        self.before = seen(self.bench)

    def tearDown(self):
        self.assertEqual(seen(self.bench), self.before)

    def test_beginnings(self):
        for value in [*kinds_but(Plan), self.bench]:
            self.assertFails(InvalidPlan, Bench, value)

    def test_views(self):
        for value in [*all_kinds(), ("s", "r"), ("r", "q"), ["r", "s"], "r"]:
            wrong = InvalidView
            self.assertFails(wrong, self.bench.draw, value)
            self.assertFails(wrong, self.bench.erase, value)
        for value in (RS, ("r", "t"), ("r",), ("r", "s", "t")):
            self.assertFails(InvalidOperation, self.bench.draw, value)
        for value in (("r", "t"), ("r",), ("r", "s", "t")):
            self.assertFails(InvalidOperation, self.bench.erase, value)
        self.assertKeeps(Refused, "pledge", ("degree", "t", (0, 1)), self.bench.erase, RS)

    def test_questions(self):
        for value in [*all_kinds(), "q", ("r",)]:
            self.assertKeeps(UnknownName, "word", value, self.bench.resize, value, HALF)
            self.assertKeeps(UnknownName, "word", value, self.bench.resize, value, None)
        for value in [*kinds_but(Ratio), Ratio(-1, 2), Ratio(10, 1), Ratio(1, 61)]:
            self.assertFails(InvalidQuestion, self.bench.resize, "r", value)
        for value in [*(one for one in all_kinds() if one not in ((), ("a",))), ("d",), ("b", "a"), ["a"], "a"]:
            self.assertFails(InvalidQuestion, self.bench.regroup, value)
        self.assertKeeps(Refused, "pledge", ("degree", "t", (0, 1)), self.bench.regroup, ("b",))

    def test_store_is_no_plan(self):
        self.assertFails(InvalidPlan, Bench, THREE)
