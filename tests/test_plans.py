"""Plans: what they work out, against exact fractions; texts with many brackets; each error."""

import itertools
import math
import random
import unittest
from fractions import Fraction

from rowvault.cuts import Every
from rowvault.errors import BadCount, BadLayout, BadPlan, BadText, BadUnit, NoUnit, TooMany
from rowvault.images import Image
from rowvault.kinds import Blocks, Buckets, Cells, Pages, Stripes
from rowvault.layouts import Layout
from rowvault.plans import Added, Given, Less, Over, Plan, Read, Scaled
from rowvault.questions import Question
from rowvault.shapes import Shape
from rowvault.tables import Table
from rowvault.units import in_order, is_unit
from tests.helpers import TWO, Case, any_values, is_int

FULL = Layout(TWO, Blocks(Every(2)), Pages(1), Cells(2), Buckets(1))
LAYOUTS = [FULL, Layout(Shape(list("abc"), 2), Blocks(Every(3)), Stripes(2, 2), Pages(2)), Layout(TWO, Buckets(1))]
UNITS = ["block 0", "block 1", "page 0", "page 1", "cell 1 0", "cell 2 0", "bucket 0", "parity 0 1", "journal", "block 99"]


def some_plan(chance, size, units=UNITS, most=1):
    """A plan of at most so many plans, by the classes and by operators."""
    if size < 2:
        if chance.random() < 0.7:
            return Read(chance.choice(units), chance.randint(0, most))
        return Given(chance.choice([0, 1, -1, 7, 10 ** 40]))
    kind = chance.randrange(6)
    if kind < 2 or size == 2:
        one = some_plan(chance, size - 1, units, most)
        value = chance.choice([1, 2, 3, 6, 10 ** 20])
        return chance.choice([lambda: Over(one, value), lambda: one // value, lambda: Scaled(one, -value),
                              lambda: one * value, lambda: one * 0, lambda: -one])()
    left = chance.randint(1, size - 2)
    one, other = some_plan(chance, left, units, most), some_plan(chance, size - 1 - left, units, most)
    return chance.choice([lambda: Added(one, other), lambda: one + other, lambda: Less(one, other), lambda: one - other])()


def size_of(plan):
    if isinstance(plan, (Read, Given)):
        return 1
    return 1 + size_of(plan.one) + (size_of(plan.other) if isinstance(plan, (Added, Less)) else 0)


def reads_of(plan):
    """The pairs that a plan reads, as it is written."""
    if isinstance(plan, Read):
        return [(plan.unit, plan.index)]
    if isinstance(plan, Given):
        return []
    return reads_of(plan.one) + (reads_of(plan.other) if isinstance(plan, (Added, Less)) else [])


def value_of(plan, answers):
    """What a plan works out, by fractions."""
    if isinstance(plan, Read):
        return Fraction(answers[plan.unit][plan.index])
    if isinstance(plan, Given):
        return Fraction(plan.value)
    one = value_of(plan.one, answers)
    if isinstance(plan, Added):
        return one + value_of(plan.other, answers)
    if isinstance(plan, Less):
        return one - value_of(plan.other, answers)
    return one * plan.value if isinstance(plan, Scaled) else one / plan.value


def text_of(plan):
    if isinstance(plan, Read):
        return f"read {plan.unit} {plan.index}"
    if isinstance(plan, Given):
        return f"given {plan.value}"
    sign = {Added: "+", Less: "-", Scaled: "*", Over: "//"}[type(plan)]
    right = text_of(plan.other) if isinstance(plan, (Added, Less)) else plan.value
    return f"( {text_of(plan.one)} {sign} {right} )"


def lacking(plan, layout):
    """The unit of the first read, as the plan is written, that the layout lacks; None without one."""
    return next((unit for unit, index in reads_of(plan) if unit not in layout.units or index >= len(layout[unit])), None)


class Made(Case):
    def test_attributes(self):
        one, other = Read("page 1", 0), Given(3)
        self.same([one.unit, one.index, one.units, other.value, other.units], ["page 1", 0, ("page 1",), 3, ()])
        for kind in (Added, Less):
            plan = kind(other=other, one=one)
            self.assertIs(plan.one, one)
            self.assertIs(plan.other, other)
        for kind in (Scaled, Over):
            plan = kind(value=4, one=one)
            self.assertIs(plan.one, one)
            self.same([plan.value, plan.units], [4, ("page 1",)])
        for kind in (Read, Given, Added, Less, Scaled, Over):
            self.assertTrue(issubclass(kind, Plan))

    def test_units(self):
        chance = random.Random(1)
        for _ in range(60):
            plan = some_plan(chance, chance.randint(1, 14))
            self.same(plan.units, in_order([unit for unit, _ in reads_of(plan)]))
        # A unit that plays no part in the sum is read all the same.
        plan = Read("block 0", 1) - Read("block 0", 1) + Read("page 0", 0) * 0
        self.same(plan.units, ("block 0", "page 0"))

    def test_operators(self):
        one, other = Read("page 1", 0), Read("block 0", 1)
        self.assertEqual(one + other, Added(one, other))
        self.assertEqual(one - other, Less(one, other))
        self.assertEqual(one + 5, Added(one, Given(5)))
        self.assertEqual(one - -5, Less(one, Given(-5)))
        self.assertEqual(one * -3, Scaled(one, -3))
        self.assertEqual(one // 3, Over(one, 3))
        self.assertEqual(-one, Scaled(one, -1))
        for plan in (one, Given(2), one + other, one - other, one * 2, one // 2):
            self.assertEqual(plan + other, Added(plan, other))
            self.assertEqual(plan - 4, Less(plan, Given(4)))
            self.assertEqual(plan * 7, Scaled(plan, 7))
            self.assertEqual(plan // 7, Over(plan, 7))
            self.assertEqual(-plan, Scaled(plan, -1))
            self.assertEqual(str(-plan), f"( {plan} * -1 )")
        plans = [one, other, Given(5), Given(-5), one + other, other + one, one - other, other - one, one + one, one - one, one * 2, one // 2, -one, one * -1,
                 Read("page 1", 1), (one + other) * 2, one + other * 2, one * 3, one // 3, other * 2, other // 2, one // 1]
        for left, right in itertools.product(plans, plans):
            self.assertIs(left == right, text_of(left) == text_of(right))
        for plan in plans:
            for value in any_values():
                self.assertNotEqual(plan, value)
            self.assertTrue(plan)

    def test_wrong_values(self):
        one = Read("page 1", 0)
        for value in any_values() + ["cell 0 1", "block 100", "block 01"]:
            if not is_unit(value):
                self.raises(BadUnit(value), Read, value, None)
            if not (is_int(value) and 0 <= value <= 35):
                self.raises(BadCount(value), Read, "block 0", value)
            if not is_int(value):
                self.raises(BadPlan("value"), Given, value)
                self.raises(BadPlan("value"), Scaled, one, value)
                self.raises(BadPlan("value"), lambda: one * value)
                for call in (lambda: one + value, lambda: one - value) if not isinstance(value, Plan) else ():
                    self.raises(BadPlan("other"), call)
            if not (is_int(value) and value >= 1):
                self.raises(BadPlan("value"), Over, one, value)
                self.raises(BadPlan("value"), lambda: one // value)
            if isinstance(value, Plan):
                continue
            for kind in (Added, Less):
                self.raises(BadPlan("one"), kind, value, value)
                self.raises(BadPlan("other"), kind, one, value)
            for kind in (Scaled, Over):
                self.raises(BadPlan("one"), kind, value, None)
        for index in (0, 35):
            self.same(Read("journal", index).units, ("journal",))
        self.raises(BadCount(36), Read, "block 0", 36)

    def test_nodes(self):
        plan = Given(0)
        for _ in range(59):
            plan = -plan
        self.same(size_of(plan), 60)
        for call in (lambda: -plan, lambda: plan * 2, lambda: plan // 2, lambda: plan + 1, lambda: Scaled(plan, 3)):
            self.raises(TooMany("nodes", 60), call)
        for call in (lambda: plan + None, lambda: Added(None, plan)):
            self.assertRaises(BadPlan, call)
        self.raises(BadPlan("value"), lambda: plan * True)
        # Each plan counts as often as it stands.
        plan = Read("block 0", 0)
        for _ in range(4):
            plan = plan + plan
        self.same(size_of(plan), 31)
        self.raises(TooMany("nodes", 60), lambda: plan + plan)
        wide = plan + (plan.one + plan.one.one.one + 1 - plan.one.one.one.one)
        self.assertLessEqual(size_of(wide), 60)
        for many, let in ((59 - size_of(plan), True), (60 - size_of(plan), False)):
            other = Given(1)
            while size_of(other) < many:
                other = -other
            if let:
                self.same(size_of(plan + other), 60)
            else:
                self.raises(TooMany("nodes", 60), lambda: plan + other)


class WorkedOut(Case):
    def test_what_plans_work_out(self):
        chance = random.Random(2)
        seen = {"right": 0, "rest": 0, "lacking": 0}
        for _ in range(600):
            layout = chance.choice(LAYOUTS)
            table = Table(layout.shape, {place: chance.randint(-10, 10) * 6 ** 4 for place in layout.shape})
            units = list(layout.units) if chance.random() < 0.8 else UNITS
            plan = some_plan(chance, chance.randint(1, 20), units, chance.choice([0, 0, 1]))
            image = Image(layout, table)
            gone = lacking(plan, layout)
            if gone is not None:
                self.raises(NoUnit(gone), plan, image)
                self.raises(NoUnit(gone), plan.sum_on, layout)
                seen["lacking"] += 1
                continue
            value = value_of(plan, dict(image))
            self.sums(plan, layout, table, value)
            if value.denominator == 1:
                self.same(plan(image), int(value))
                self.same(plan(image=image), int(value))
                seen["right"] += 1
            else:
                self.raises(BadPlan("rest"), plan, image)
                seen["rest"] += 1
        self.assertGreater(min(seen.values()), 60)

    def sums(self, plan, layout, table, value):
        told = plan.sum_on(layout=layout)
        self.assertIs(type(told), tuple)
        bottom, question, number = told
        self.assertTrue(is_int(bottom) and bottom >= 1 and is_int(number) and type(question) is Question)
        self.assertEqual(question.shape, layout.shape)
        self.assertEqual(bottom * value, question(table) + number)
        self.assertEqual(math.gcd(bottom, number, *question.weights.values()), 1)
        other = {place: 1 for place in layout.shape}
        image = Image(layout, Table(layout.shape, other))
        self.assertEqual(bottom * value_of(plan, dict(image)), question(Table(layout.shape, other)) + number)

    def test_lowest_terms_of_sums(self):
        # The answers together can have a divisor that the weights of the answers do not have.
        plan = (Read("page 0", 0) - Read("block 0", 0) + Read("block 0", 1)) // 2
        self.assertEqual(plan.sum_on(FULL), (1, Question(TWO, {("a", 1): 1}), 0))
        plan = (Read("page 0", 0) - Read("cell 1 0", 0)) // 6 + 1
        self.assertEqual(plan.sum_on(FULL), (1, Question(TWO, {}), 1))
        self.assertEqual((Given(4) // 6).sum_on(FULL), (3, Question(TWO, {}), 2))
        self.assertEqual((Given(0) // 6).sum_on(Layout(TWO)), (1, Question(TWO, {}), 0))

    def test_no_unit_as_the_plan_is_written(self):
        image = Image(FULL, Table(TWO))
        plan = Given(1) // 2 + (Read("block 0", 2) - Read("page 7", 0)) + Read("journal", 0)
        self.raises(NoUnit("block 0"), plan, image)
        self.raises(NoUnit("page 7"), Given(1) // 2 + Read("page 7", 0) - Read("block 0", 2), image)
        self.raises(NoUnit("journal"), Read("journal", 0) * 0 // 2, image)
        self.raises(BadPlan("rest"), Given(1) // 2 + Read("block 0", 1), image)
        self.same(((Given(1) // 2 + Read("block 0", 1)) * 2)(image), 1)

    def test_wrong_values(self):
        plan = Read("block 9", 0) // 2
        for value in any_values():
            if not isinstance(value, Image):
                self.raises(BadPlan("image"), plan, value)
            if not isinstance(value, Layout):
                self.raises(BadLayout("layout"), plan.sum_on, value)

    def test_an_image_of_no_table(self):
        layout = Layout(TWO, Pages(1), Buckets(1))
        image = Image.of(layout, {"page 0": (1,), "page 1": (2,), "bucket 0": (30,), "bucket 1": (4,)})
        self.same((Read("page 1", 0) * 5 - Read("bucket 0", 0) // 3)(image), 0)


VOCABULARY = ["(", ")", "+", "-", "*", "//", "read", "given", "block", "0", "1", "7", "-3", "cell", "journal", "36", "35", "x"]
NUMBERS = {"journal": 0, "block": 1, "page": 1, "cell": 2, "bucket": 1, "parity": 2}


def end_of_plan(words, at):
    """The index behind the plan at an index; -1 less the index of the first wrong word. By recursion."""
    word = words[at] if at < len(words) else None
    if word == "given":
        return at + 2 if at + 1 < len(words) and is_whole(words[at + 1]) else -2 - at
    if word == "read":
        return end_of_read(words, at + 1)
    if word != "(":
        return -1 - at
    at = end_of_plan(words, at + 1)
    if at < 0:
        return at
    sign = words[at] if at < len(words) else None
    if sign in ("+", "-"):
        at = end_of_plan(words, at + 1)
        if at < 0:
            return at
    elif sign in ("*", "//"):
        right = at + 1 < len(words) and is_whole(words[at + 1]) and (sign == "*" or int(words[at + 1]) >= 1)
        if not right:
            return -2 - at
        at += 2
    else:
        return -1 - at
    return at + 1 if at < len(words) and words[at] == ")" else -1 - at


def end_of_read(words, at):
    word = words[at] if at < len(words) else None
    if word not in NUMBERS:
        return -1 - at
    for k in range(NUMBERS[word]):
        at += 1
        low = 1 if word == "cell" and k == 0 else 0
        if at >= len(words) or words[at] not in [str(number) for number in range(low, 100)]:
            return -1 - at
    at += 1
    return at + 1 if at < len(words) and words[at] in [str(number) for number in range(36)] else -1 - at


def is_whole(word):
    try:
        return str(int(word)) == word
    except ValueError:
        return False


def wrong_word(words):
    at = end_of_plan(words, 0)
    if at < 0:
        return -at - 1
    return None if at == len(words) else at


class Texts(Case):
    def test_texts(self):
        chance = random.Random(3)
        for _ in range(200):
            plan = some_plan(chance, chance.randint(1, 25))
            self.same(str(plan), text_of(plan))
            other = Plan.read(text=str(plan))
            self.assertEqual(other, plan)
            self.assertIs(type(other), type(plan))
        for kind in (Read, Added):
            self.assertEqual(kind.read("given 7"), Given(7))

    def test_changed_texts(self):
        chance = random.Random(4)
        seen = {True: 0, False: 0}
        for _ in range(120):
            words = str(some_plan(chance, chance.randint(1, 8))).split(" ")
            for _ in range(30):
                other, at = list(words), chance.randrange(len(words))
                change = chance.randrange(4)
                if change == 0:
                    del other[at]
                elif change == 1:
                    other.insert(at, chance.choice(VOCABULARY))
                elif change == 2:
                    other[at] = chance.choice(VOCABULARY)
                else:
                    other = other[:at]
                text = " ".join(other)
                wrong = wrong_word(text.split(" "))
                seen[wrong is None] += 1
                if wrong is None:
                    self.same(str(Plan.read(text)), text)
                else:
                    self.raises(BadText(0, wrong), Plan.read, text)
        self.assertGreater(min(seen.values()), 100)

    def test_wrong_texts(self):
        for value in any_values():
            if not isinstance(value, str):
                self.raises(BadText(0, 0), Plan.read, value)
        for text, word in (("", 0), ("(", 1), ("( )", 1), ("()", 0), ("given", 1), ("given 01", 1), ("given 1 2", 2),
                           ("given -0", 1), ("read block 0", 3), ("read block 0 36", 3), ("read block 0 -1", 3),
                           ("read cell 0 0 0", 2), ("read journal 35", None), ("read journal", 2), ("( given 1 )", 3),
                           ("( given 1 // 0 )", 4), ("( given 1 // -2 )", 4), ("( given 1 // given 2 )", 4),
                           ("( given 1 * 0 )", None), ("( given 1 + 2 )", 4), ("( given 1 + given 2", 6),
                           ("given 1 + given 2", 2), ("( given 1 + given 2 ) )", 7), ("( given 1  + given 2 )", 3),
                           ("- given 1", 0), ("( given 1 / 2 )", 3), ("( read block 0 0 * 2 // 3 )", 7)):
            if word is None:
                self.same(str(Plan.read(text)), text)
            else:
                self.raises(BadText(0, word), Plan.read, text)

    def test_many_brackets(self):
        for many in (1, 59, 60, 300, 990):
            self.raises(BadText(0, many), Plan.read, "( " * (many - 1) + "(")
            self.raises(BadText(0, many + 2), Plan.read, "( " * many + "given 1")
            text = "( " * many + "given 1" + " * 2 )" * many
            if many < 60:
                self.same(str(Plan.read(text)), text)
                self.raises(BadText(0, len(text.split(" "))), Plan.read, text + " )")
            else:
                # All words can stand: then the class refuses so many plans; a wrong word comes ahead of this.
                self.raises(TooMany("nodes", 60), Plan.read, text)
                self.raises(BadText(0, len(text.split(" "))), Plan.read, text + " )")
                self.raises(BadText(0, len(text.split(" ")) - 1), Plan.read, text[:-2])
            deep = "( given 1 + " * many + "given 1" + " )" * many
            if many < 30:
                self.same(str(Plan.read(deep)), deep)
            else:
                self.raises(TooMany("nodes", 60), Plan.read, deep)

    def test_sixty_plans(self):
        text = "( given 1 + " * 29 + "( given 1 * 2 )" + " )" * 29
        plan = Plan.read(text)
        self.same(size_of(plan), 60)
        self.same(plan(Image(FULL, Table(TWO))), 31)
        self.raises(TooMany("nodes", 60), Plan.read, f"( {text} * 2 )")

    def test_great_integers(self):
        great = 10 ** 5000 + 3
        plan = Given(great) * great // great
        pieces = str(plan).split(" ")
        self.same(len(pieces), 10)
        self.assertEqual(Plan.read(str(plan)), plan)
        self.assertEqual(plan(Image(FULL, Table(TWO))), great)


if __name__ == "__main__":
    unittest.main()
