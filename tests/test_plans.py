"""Stage 5: plans."""

import itertools
import unittest

from tests.force import children_by_force, drawn_plan, drawn_question, kept_by_force, many, met_by_force, plans_by_force
from tests.samples import PATH, PLAN, STAR, TRI, Strict, all_kinds, kinds_but
from touchrows.base.questions import Question
from touchrows.base.ratios import Ratio
from touchrows.errors import InvalidOperation, InvalidPlan, InvalidQuestion, InvalidView, ParseError, UnknownName
from touchrows.plan.plans import Plan, flat_plan

FIVE = Question({name: ("a",) for name in "rstuv"}, ())
DEEP = "((((r s) t) u) v)"
NO_VIEWS = (
    (), ("q",), ("r", "q"), ("s", "r"), ("r", "r"), ("r", "s", "s"), ("R",), ("",), (None,), (1,), ("r", 1), (("r",),), ("r", None),
    "r", "rs", ["r"], ["r", "s"], {"r": "s"}, None, 1, True, ("r", "s", "t", "u"), (["r"],), ("r", ["s"]), ("a",),
)


def drawn_plans(times, seed, most=6):
    for draw in many(times, seed):
        yield draw, drawn_plan(draw, drawn_question(draw, draw.randint(1, most), columns=draw.randint(1, 8), sizes=True))


class Making(Strict, unittest.TestCase):
    def test_every_set_of_views(self):
        for question in (Question({"r": ("a",)}, ()), STAR.without_table("u"), TRI, PATH.with_table("u", ("a",))):
            wanted = plans_by_force(question)
            names = question.names
            views = [view for size in range(1, len(names) + 1) for view in itertools.combinations(names, size)]
            inner = [view for view in views if 1 < len(view) < len(names)]
            found = set()
            for size in range(min(len(inner), 4) + 1):
                for chosen in itertools.combinations(inner, size):
                    full = tuple(sorted({*chosen, names, *[(name,) for name in names]}))
                    if full in wanted:
                        self.assertSame(Plan(question, chosen).views, full)
                        found.add(full)
                    else:
                        self.assertFails(InvalidPlan, Plan, question, chosen)
            self.assertEqual(sorted(found), wanted)

    def test_any_order_and_what_is_left_out(self):
        wanted = (("r",), ("r", "s"), ("r", "s", "t"), ("s",), ("t",))
        for size in range(4):
            for more in itertools.combinations((("r",), ("s",), ("t",), ("r", "s", "t")), size):
                for views in itertools.permutations((("r", "s"), *more)):
                    self.assertSame(Plan(TRI, views).views, wanted)
                    self.assertEqual(Plan(TRI, views), PLAN)
        self.assertSame(Plan(TRI, wanted).views, wanted)
        self.assertSame(Plan(FIVE.without_table("v"), (("r", "s", "t"), ("r", "s"))).text, "(((r s) t) u)")

    def test_views_that_do_not_go_together(self):
        for views in (
            (("r", "s"), ("s", "t")), (("r", "t"), ("r", "s")), (("s", "t"), ("r", "s")), (("r", "t"), ("s", "t"), ("r", "s")),
        ):
            self.assertFails(InvalidPlan, Plan, TRI, views)
        self.assertFails(InvalidPlan, Plan, FIVE, (("r", "s", "t"), ("t", "u", "v")))
        self.assertFails(InvalidPlan, Plan, FIVE, (("r", "s", "t"), ("u", "v"), ("s", "u")))
        self.assertSame(str(Plan(FIVE, (("u", "v"), ("r", "s", "t")))), "((r s t) (u v))")

    def test_views_twice(self):
        for view in (("r",), ("r", "s"), ("r", "s", "t")):
            self.assertFails(InvalidPlan, Plan, TRI, (view, view))
            self.assertFails(InvalidPlan, Plan, TRI, (view, ("s",), view))

    def test_no_views(self):
        for view in NO_VIEWS:
            self.assertFails(InvalidPlan, Plan, TRI, (view,))
            self.assertFails(InvalidPlan, Plan, TRI, (("r", "s"), view))
            self.assertFails(InvalidPlan, Plan, TRI, (view, ("r", "s"), ("t",)))

    def test_no_tuple_of_views(self):
        for value in [value for value in all_kinds() if value != ()] + [[("r", "s")], {("r", "s"): 1}, ("r", "s"), "rs"]:
            self.assertFails(InvalidPlan, Plan, TRI, value)

    def test_long_tuples(self):
        self.assertFails(InvalidPlan, Plan, TRI, (("r",),) * 5000)
        subsets = [view for size in range(1, 6) for view in itertools.combinations(FIVE.names, size)]
        self.assertFails(InvalidPlan, Plan, FIVE, tuple(subsets))

    def test_no_question(self):
        for value in kinds_but(Question):
            for call in (lambda: Plan(value, ()), lambda: Plan(value, None), lambda: flat_plan(value),
                         lambda: Plan.of_text(value, "r"), lambda: Plan.of_text(value, None), lambda: PLAN.over(value)):
                self.assertFails(InvalidQuestion, call)

    def test_flat_plans(self):
        for question in (TRI, STAR, PATH, FIVE, Question({"r": ("a",)}, ())):
            plan = flat_plan(question)
            self.assertEqual(plan, Plan(question, ()))
            self.assertEqual(len(plan), len(question) + (len(question) > 1))
            self.assertSame(plan.root, question.names)

    def test_never_changes(self):
        for name in ("views", "question", "root", "text"):
            with self.assertRaises(AttributeError):
                setattr(PLAN, name, ())


class Trees(Strict, unittest.TestCase):
    def test_drawn_plans(self):
        for _, plan in drawn_plans(150, "trees"):
            question = plan.question
            for view in plan.views:
                self.assertSame(plan.children(view), children_by_force(plan, view))
                self.assertSame(plan.kept(view), kept_by_force(plan, view))
                self.assertSame(plan.met(view), met_by_force(plan, view))
                around = [other for other in plan.views if set(view) < set(other)]
                self.assertSame(plan.parent(view), min(around, key=len) if around else None)
                for table in view:
                    wanted = tuple(name for name in plan.met(view) if name not in question.tables[table])
                    self.assertSame(plan.open_columns(view, table), wanted)
            for table in question.names:
                with_table = [view for view in plan.views if table in view]
                self.assertSame(plan.path(table), tuple(sorted(with_table, key=len)))
                self.assertSame((plan.path(table)[0], plan.path(table)[-1]), ((table,), plan.root))
            self.assertSame(sorted(plan.views), list(plan.views))

    def test_known_ones(self):
        plan = Plan.of_text(PATH.with_groups(("d",)), "((r s) t)")
        self.assertSame(plan.kept(("r",)), ("b",))
        self.assertSame(plan.kept(("r", "s")), ("c",))
        self.assertSame(plan.kept(("t",)), ("c", "d"))
        self.assertSame(plan.kept(plan.root), ("d",))
        self.assertSame(plan.met(("r",)), ("a", "b"))
        self.assertSame(plan.met(("r", "s")), ("b", "c"))
        self.assertSame(plan.met(plan.root), ("c", "d"))
        self.assertSame(plan.open_columns(plan.root, "r"), ("c", "d"))
        self.assertSame(plan.open_columns(plan.root, "t"), ())
        self.assertSame([plan.parent(("r",)), plan.parent(("r", "s")), plan.parent(plan.root)], [("r", "s"), plan.root, None])
        self.assertSame(plan.children(plan.root), (("r", "s"), ("t",)))
        self.assertSame(plan.children(("t",)), ())

    def test_one_table(self):
        plan = flat_plan(Question({"r": ("a", "b")}, ("b",)))
        self.assertSame([plan.views, plan.root, plan.text, len(plan)], [(("r",),), ("r",), "r", 1])
        self.assertSame([plan.kept(("r",)), plan.met(("r",)), plan.children(("r",))], [("b",), ("a", "b"), ()])
        self.assertSame([plan.parent(("r",)), plan.path("r"), plan.open_columns(("r",), "r")], [None, (("r",),), ()])

    def test_no_views_of_the_plan(self):
        for value in [*all_kinds(), *NO_VIEWS, ("r", "t"), ("s", "t"), ["r", "s"]]:
            for call in (PLAN.children, PLAN.parent, PLAN.kept, PLAN.met):
                self.assertFails(InvalidView, call, value)
            self.assertFails(InvalidView, PLAN.open_columns, value, "r")
            self.assertFails(InvalidView, PLAN.open_columns, value, None)

    def test_unknown_tables(self):
        for value in [*all_kinds(), "q", ("r",), ["r"], "R"]:
            self.assertKeeps(UnknownName, "word", value, PLAN.path, value)
            self.assertKeeps(UnknownName, "word", value, PLAN.open_columns, ("r", "s"), value)
        self.assertKeeps(UnknownName, "word", "t", PLAN.open_columns, ("r", "s"), "t")
        self.assertKeeps(UnknownName, "word", "s", PLAN.open_columns, ("r",), "s")
        self.assertSame(PLAN.open_columns(PLAN.root, "t"), ())


class Texts(Strict, unittest.TestCase):
    def test_both_ways(self):
        for _, plan in drawn_plans(150, "texts"):
            self.assertEqual(Plan.of_text(plan.question, plan.text), plan)
            self.assertIs(type(Plan.of_text(plan.question, plan.text)), Plan)
            self.assertSame(str(plan), plan.text)

    def test_known_ones(self):
        for text, views in (
            ("((r s) t)", (("r", "s"),)), ("((r t) s)", (("r", "t"),)), ("(r (s t))", (("s", "t"),)), ("(r s t)", ()),
        ):
            self.assertSame(Plan(TRI, views).text, text)
            self.assertEqual(Plan.of_text(TRI, text), Plan(TRI, views))
        self.assertSame(Plan.of_text(FIVE, DEEP).views[1:4], (("r", "s"), ("r", "s", "t"), ("r", "s", "t", "u")))
        for text in ("((r u) (s t) v)", "((r v) s (t u))", "(r s (t (u v)))", "((r (s v)) (t u))", "((r s u) (t v))"):
            self.assertSame(Plan.of_text(FIVE, text).text, text)

    def test_children_in_ascending_order(self):
        names = Question({name: ("a",) for name in ("a", "ab", "b", "ba")}, ())
        self.assertSame(Plan(names, (("a", "ba"), ("ab", "b"))).text, "((a ba) (ab b))")
        self.assertSame(Plan(names, (("ab", "ba"),)).text, "(a (ab ba) b)")

    def test_no_texts(self):
        wrong = (
            "", " ", "r", "t", "r s t", "(r s t", "r s t)", "(r s)", "(r s) t", "((r s t))", "(((r s) t))", "((r s) (t))",
            "((r) s t)", "(t (r s))", "((s r) t)", "(r t s)", "(s r t)", "((r  s) t)", "( (r s) t)", "((r s) t )", "((r s)t)",
            "((r s ) t)", "(( r s) t)", " ((r s) t)", "((r s) t) ", "((r s) t)\n", "((r s)\nt)", "((r s)\tt)", "[(r s) t]",
            "((r s) q)", "((r s) t u)", "((r r) t)", "((r s) r)", "((r s) (s t))", "((R s) t)", "((r, s), t)", "(r,s,t)", "()",
            "(())", "(r s t)(r s t)", "(r s t) (r s t)", "((r s) t))", "(((r s) t)", ")r s t(", "(r s t)()", "(r s t())",
            "((r s) (r s) t)", "(r (s t)", "(r s) (t)", "none", "(r(s t))", "(t s r)", "((r s) t t)",
            "(" * 2000 + ")" * 2000, "(" * 4000, ")" * 4000, "(r " * 1300, "(" * 1300 + "r " * 650 + ")" * 1300,
        )
        for text in wrong:
            self.assertKeeps(ParseError, "number", None, Plan.of_text, TRI, text)
        one = Question({"r": ("a",)}, ())
        self.assertSame(Plan.of_text(one, "r").text, "r")
        for text in ("(r)", "", "r ", "s", "((r))", "(r r)", "R"):
            self.assertKeeps(ParseError, "number", None, Plan.of_text, one, text)

    def test_other_values(self):
        for value in [*all_kinds(), *kinds_but(str), b"(r s t)", ("r", "s", "t"), ["(r s t)"]]:
            self.assertKeeps(ParseError, "number", None, Plan.of_text, TRI, value)


class Others(Strict, unittest.TestCase):
    def test_with_and_without(self):
        for draw, plan in drawn_plans(150, "others", 5):
            names = plan.question.names
            for size in range(1, len(names) + 1):
                for view in itertools.combinations(names, size):
                    apart = [
                        other for other in plan.views
                        if not (set(view) <= set(other) or set(other) <= set(view) or not set(view) & set(other))
                    ]
                    if view in plan.views or apart:
                        self.assertFails(InvalidOperation, plan.with_view, view)
                    else:
                        told = plan.with_view(view)
                        self.assertSame(told.views, tuple(sorted((*plan.views, view))))
                        self.assertEqual(told.without_view(view), plan)
                    if view not in plan.views or size in (1, len(names)):
                        self.assertFails(InvalidOperation, plan.without_view, view)
                    else:
                        told = plan.without_view(view)
                        self.assertSame(told.views, tuple(other for other in plan.views if other != view))
                        self.assertEqual(told.with_view(view), plan)

    def test_no_views(self):
        for view in NO_VIEWS:
            self.assertFails(InvalidView, PLAN.with_view, view)
            self.assertFails(InvalidView, PLAN.without_view, view)
        for value in all_kinds():
            self.assertFails(InvalidView, PLAN.with_view, value)
            self.assertFails(InvalidView, PLAN.without_view, value)

    def test_elder_plans_stay(self):
        flat = flat_plan(TRI)
        flat.with_view(("s", "t"))
        PLAN.without_view(("r", "s"))
        self.assertSame((str(flat), str(PLAN), len(flat), len(PLAN)), ("(r s t)", "((r s) t)", 4, 5))

    def test_over(self):
        other = Question({"r": ("d",), "s": ("d", "e"), "t": ("f",)}, ("e",), sizes={"r": Ratio(1, 2)})
        told = PLAN.over(other)
        self.assertEqual(told, Plan(other, PLAN.views))
        self.assertSame((told.text, told.kept(("r", "s")), told.kept(("r",))), ("((r s) t)", ("e",), ("d",)))
        self.assertEqual(PLAN.question, TRI)
        self.assertEqual(PLAN.over(TRI), PLAN)

    def test_over_questions_with_other_names(self):
        for other in (TRI.without_table("r"), TRI.with_table("u", ("a",)), STAR, FIVE,
                      TRI.renamed({"r": "r", "s": "s", "t": "u"}, {"a": "a", "b": "b", "c": "c"})):
            self.assertFails(InvalidOperation, PLAN.over, other)


class Values(Strict, unittest.TestCase):
    def test_views_inside(self):
        for view in PLAN.views:
            self.assertIs(view in PLAN, True)
        for value in [*all_kinds(), *NO_VIEWS, ("r", "t"), ("s", "t"), "((r s) t)", ["r", "s"], {("r",): 1}, object()]:
            self.assertIs(value in PLAN, False)
            self.assertIs(value not in PLAN, True)

    def test_length_and_order(self):
        self.assertSame([len(PLAN), list(PLAN), tuple(PLAN)], [5, list(PLAN.views), PLAN.views])
        self.assertSame(len(Plan.of_text(FIVE, DEEP)), 9)

    def test_equality(self):
        self.assertIs(PLAN == Plan(TRI, (("r", "s"), ("t",))), True)
        self.assertIs(PLAN != Plan(TRI, (("r", "s"),)), False)
        for other in (flat_plan(TRI), Plan(TRI, (("r", "t"),)), PLAN.over(TRI.with_groups(("a",))),
                      PLAN.over(TRI.with_size("t", Ratio(1, 2)))):
            self.assertIs(PLAN == other, False)
            self.assertIs(PLAN != other, True)
        for value in [*kinds_but(Plan), PLAN.views, PLAN.text, object()]:
            self.assertIs(PLAN == value, False)
            self.assertIs(value == PLAN, False)
            self.assertIs(PLAN != value, True)

    def test_example(self):
        plan = Plan.of_text(TRI, "((r s) t)")
        told = [
            plan.views, plan.kept(("r", "s")), plan.met(("r", "s")), plan.path("s"), plan.open_columns(("r", "s"), "s"),
        ]
        wanted = [
            (("r",), ("r", "s"), ("r", "s", "t"), ("s",), ("t",)), ("a", "c"), ("a", "b", "c"),
            (("s",), ("r", "s"), ("r", "s", "t")), ("a",),
        ]
        self.assertSame(told, wanted)
