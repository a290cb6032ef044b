"""The interface: each name, argument, method and property stands where the document lists it."""

import importlib
import inspect
import unittest

FUNCTIONS = {
    "units": {
        "is_unit": "(value)", "unit_of": "(word, *numbers)", "unit_parts": "(unit)", "in_order": "(units)",
        "units_text": "(units)", "read_units": "(text)",
    },
    "told": {
        "told": "(layout, units, question, bare=None)", "told_part": "(layout, units, bare=None)",
        "beside": "(layout, units, question, table, bare=None)", "work_out": "(paper, answers)",
    },
    "look_told": {
        "shows_told": "(layout, units, question, value, bare=None)",
        "shows_parted": "(layout, units, question, value, bare=None)",
    },
    "readings": {
        "musts": "(layout, question, bare=None, units=None)", "readings": "(layout, question, bare=None, units=None)",
        "partings": "(layout, question, bare=None, units=None)", "reading_of": "(layout, units, question, bare=None)",
        "parting_of": "(layout, units, question, bare=None)",
        "least_reading": "(layout, question, price, bare=None, units=None)",
        "least_behind": "(layout, question, price, many)",
    },
    "look_readings": {
        "shows_reading": "(layout, units, question, value, bare=None)",
        "shows_parting": "(layout, units, question, value, bare=None)",
        "shows_cheapest": "(layout, question, price, value, bare=None, units=None)",
        "shows_behind": "(layout, question, price, many, value)",
    },
    "losses": {
        "units_left": "(layout, lost)", "rebuilt": "(layout, lost)", "covers": "(layout, many)",
        "strength": "(layout)", "least_help": "(layout, lost, unit, price)", "fewest_more": "(layout, many, other)",
    },
    "look_losses": {
        "shows_rebuilt": "(layout, lost, value)", "shows_covers": "(layout, many, value)",
        "shows_strength": "(layout, value)", "shows_help": "(layout, lost, unit, price, value)",
        "shows_backed": "(layout, many, other, value)",
    },
    "sites": {
        "site_readings": "(sites, question)", "site_partings": "(sites, question)",
        "at_sites": "(sites, numbers, question)", "bears": "(sites, many)", "bearing": "(sites)",
        "weak_lots": "(layout)", "spread": "(layout, many, lost)",
    },
    "look_sites": {
        "shows_at_sites": "(sites, numbers, question, value)", "shows_bears": "(sites, many, value)",
        "shows_bearing": "(sites, value)", "shows_spread": "(layout, many, lost, value)",
    },
    "spoils": {
        "relations": "(layout, units)", "agree": "(layout, answers)", "finds": "(layout, many)",
        "rights": "(layout, many)", "righted": "(layout, answers, many)",
    },
    "look_spoils": {
        "shows_relation": "(layout, value)", "shows_agree": "(layout, answers, value)",
        "shows_finds": "(layout, many, value)", "shows_rights": "(layout, many, value)",
        "shows_righted": "(layout, answers, many, value)",
    },
    "alike": {
        "tells": "(one, other)", "alike": "(one, other)", "common": "(one, other)", "needless": "(layout)",
        "slim": "(layout)", "tells_always": "(kinds, others, keys, days)",
    },
    "look_alike": {
        "shows_tells": "(one, other, value)", "shows_alike": "(one, other, value)",
        "shows_breaks": "(kinds, others, value)", "shows_slim": "(layout, value)",
    },
    "judged": {"judge_plan": "(plan, layout, question)", "plan_for": "(layout, units, question)"},
    "polys": {"told_poly": "(layout, units, poly, bare=None)", "work_out_poly": "(paper, answers)"},
    "look_polys": {"shows_told_poly": "(layout, units, poly, value, bare=None)"},
    "orders": {
        "judge_order": "(layout, order, many, journal='none')", "first_safe": "(layout, many, journal='none')",
        "recovered": "(layout, order, place, moment, left, journal='none')",
    },
    "look_orders": {
        "shows_safe": "(layout, order, many, value, journal='none')",
        "shows_unsafe": "(layout, order, many, value, journal='none')",
        "shows_no_safe": "(layout, many, value, journal='none')",
    },
    "look_vaults": {"shows_unhealed": "(vault, value)"},
    "scripts": {"play": "(script, vault)"},
    "effects": {
        "outline": "(layout, script)", "effect": "(layout, script)", "same_end": "(layout, one, other)",
        "same_answers": "(layout, one, other)", "needless_line": "(layout, script)",
        "steady": "(layout, script, order, many, journal='none')",
    },
    "look_scripts": {
        "shows_other_end": "(layout, one, other, value)", "shows_other_answers": "(layout, one, other, value)",
        "shows_shaken": "(layout, script, order, many, value, journal='none')",
    },
    "texts": {"write": "(thing)"},
    "reader": {"read": "(text)"},
}
GENERATORS = {"readings": ["readings", "partings"], "sites": ["site_readings", "site_partings", "weak_lots"],
              "spoils": ["relations"]}
PLAN = "sum_on call add sub mul floordiv neg eq str"
CLASSES = {
    "shapes": {"Shape": ("(keys, days)", "index_of read len iter contains getitem or le lt eq str", "")},
    "parts": {"Part": ("(shape, *places)", """whole none of_keys of_days read len bool iter contains getitem and or sub xor
                       invert le lt eq str""", "")},
    "tables": {"Table": ("(shape, amounts=None)", """of with_amount read getitem len iter bool add sub neg mul rmul and eq
                         str""", "")},
    "questions": {"Question": ("(shape, weights)", """of none lowest read call bool iter getitem add sub neg mul rmul and
                               xor eq str""", "")},
    "spans": {"Span": ("(shape, *questions)", """weigh directions direction_for told_part len iter contains add and le lt
                       eq""", "rows"), "Weighed": ("(bottom, weights)", "eq", "")},
    "cuts": {"Cut": (None, "read call eq str", ""), "Every": ("(size)", "call eq str", ""),
             "Leads": (None, "call eq str", ""), "Sizes": ("(*sizes)", "call eq str", "")},
    "kinds": {"Kind": (None, "read units_on eq str", ""), "Blocks": ("(cut, order='keys')", "units_on eq str", ""),
              "Pages": ("(room)", "units_on eq str", ""), "Cells": ("(base)", "units_on eq str", ""),
              "Buckets": ("(width)", "units_on eq str", ""),
              "Stripes": ("(width, parities=1)", "units_on eq str", "")},
    "layouts": {"Layout": ("(shape, *kinds)", """touched_by answers span_of read getitem contains len iter add sub le lt
                           eq str""", "kinds")},
    "told": {"Told": ("(bottom, weights)", "eq", ""), "Parted": ("(one, other)", "bool eq", "")},
    "images": {"Image": ("(layout, table)", """of moved changed_from size_of ask table_back iter getitem add sub
                         eq""", "extent bare")},
    "readings": {"Reading": ("(units, told, parteds)", "eq", ""), "Wanting": ("(parted)", "bool eq", ""),
                 "Needless": ("(unit, told)", "bool eq", ""), "Parting": ("(units, parted, tolds)", "eq", ""),
                 "Enough": ("(told)", "bool eq", ""), "Spare": ("(unit, parted)", "bool eq", ""),
                 "Cheapest": ("(units, price, told, tree)", "eq", ""),
                 "Behind": ("(price, lost, cheapest, lots)", "eq", ""), "Cutoff": ("(lost, parted)", "bool eq", "")},
    "losses": {"Rebuilt": ("(tolds)", "eq", ""), "Lacking": ("(unit, index, parted)", "bool eq", ""),
               "Covers": ("(rebuilts)", "eq", ""), "Uncovered": ("(lost, lacking)", "bool eq", ""),
               "Strength": ("(many, covered, lost, lacking)", "eq", ""), "Help": ("(units, price, tolds)", "eq", ""),
               "Backed": ("(units, rebuilts)", "eq", ""), "Unbacked": ("(lost, lacking)", "bool eq", "")},
    "sites": {"Sites": ("(layout, *lots)", "site_of units_at units_off read len iter getitem eq str", ""),
              "AtSites": ("(numbers, told, parteds)", "eq", ""), "TooFew": ("(parted)", "bool eq", ""),
              "NotAsked": ("(number, told)", "bool eq", ""), "Bears": ("(rebuilts)", "eq", ""),
              "Fails": ("(numbers, lacking)", "bool eq", ""),
              "Bearing": ("(many, borne, numbers, lacking)", "eq", ""), "Spread": ("(sites, borne)", "eq", ""),
              "NoSpread": ("(weak)", "bool eq", "")},
    "spoils": {"Agreeing": ("(bottom, table)", "eq", ""), "Broken": ("(weights)", "bool eq", ""),
               "Finds": ("(rebuilts)", "eq", ""), "Unfound": ("(one, other)", "bool eq", ""),
               "Rights": ("(rebuilts)", "eq", ""), "Unrighted": ("(one, other, given)", "bool eq", ""),
               "Righted": ("(bottom, table, spoilt, cases)", "eq", ""), "Unclear": ("(one, other)", "bool eq", ""),
               "Hopeless": ("(cases)", "bool eq", "")},
    "alike": {"Tells": ("(tolds)", "eq", ""), "Silent": ("(unit, index, parted)", "bool eq", ""),
              "Alike": ("(there, back)", "eq", ""), "Apart": ("(side, silent)", "bool eq", ""),
              "Throughout": ("(shapes)", "eq", ""), "Breaks": ("(shape, silent)", "bool eq", "")},
    "books": {"Book": ("(shape, *pairs)", """with_question without told_by least_units read call getitem contains len
                       iter or le eq str""", "")},
    "plans": {"Plan": (None, f"read {PLAN}", ""), "Read": ("(unit, index)", PLAN, ""), "Given": ("(value)", PLAN, ""),
              "Added": ("(one, other)", PLAN, ""), "Less": ("(one, other)", PLAN, ""),
              "Scaled": ("(one, value)", PLAN, ""), "Over": ("(one, value)", PLAN, "")},
    "judged": {"RightPlan": ("(units)", "eq", ""), "WrongPlan": ("(table)", "bool eq", "")},
    "polys": {"Poly": ("(shape, terms)", "of integer read call len iter bool getitem add sub mul rmul neg eq str", ""),
              "ToldPoly": ("(bottom, terms)", "eq", "")},
    "orders": {"Order": ("(*words)", "fits writes read len iter getitem contains add sub invert eq str", ""),
               "Safe": ("(tolds)", "eq", ""), "Unsafe": ("(place, moment, lost, one, other)", "bool eq", ""),
               "NoSafe": ("(papers)", "bool eq", ""), "Recovered": ("(table, is_new)", "eq", "")},
    "vaults": {"Vault": ("(layout, table=None)", """of read_unit lose trial tried twin add ask table_back follow bring bring_back
                         exchange mark ask_at undo crash recover heal len iter contains getitem setitem eq""",
                         "units_left units_lost marks torn"),
               "Tear": ("(order, place, moment, journal)", "eq", ""), "Unhealed": ("(one, other)", "bool eq", "")},
    "scripts": {"Script": ("(shape, *lines)", "without read len iter getitem add eq str", "")},
    "effects": {"Answer": ("(question, number)", "eq", ""), "Effect": ("(layout, units, places, tear)", "eq", ""),
                "SameEnd": (None, "eq", ""), "OtherEnd": ("(table)", "bool eq", ""), "SameAnswers": (None, "eq", ""),
                "OtherAnswers": ("(table)", "bool eq", ""), "Steady": ("(runs)", "eq", ""),
                "Shaken": ("(line, moment, lost)", "bool eq", "")},
    "desk": {"Desk": ("()", "say run call", "")},
}
ARGUMENTS = {
    "Shape.index_of": "(self, place)", "Shape.read": "(text)", "Part.read": "(text, shape)",
    "Part.whole": "(shape)", "Part.none": "(shape)", "Part.of_keys": "(shape, *keys)",
    "Part.of_days": "(shape, first, after)", "Table.of": "(shape, *rows)", "Table.read": "(text, shape)",
    "Table.with_amount": "(self, place, amount)", "Question.of": "(part)", "Question.none": "(shape)",
    "Question.lowest": "(self)", "Question.__call__": "(self, table)", "Question.read": "(text, shape)",
    "Span.weigh": "(self, question)", "Span.directions": "(self)", "Span.direction_for": "(self, question)",
    "Span.told_part": "(self)", "Cut.read": "(text)", "Every.__call__": "(self, shape, order='keys')",
    "Leads.__call__": "(self, shape, order='keys')", "Sizes.__call__": "(self, shape, order='keys')",
    "Kind.read": "(text)", "Blocks.units_on": "(self, shape, blocks=None)",
    "Pages.units_on": "(self, shape, blocks=None)", "Cells.units_on": "(self, shape, blocks=None)",
    "Buckets.units_on": "(self, shape, blocks=None)", "Stripes.units_on": "(self, shape, blocks=None)",
    "Layout.touched_by": "(self, place)", "Layout.answers": "(self, units=None)", "Layout.span_of": "(self, units)",
    "Layout.read": "(text)", "Image.of": "(layout, answers)", "Image.moved": "(self, place, by)",
    "Image.changed_from": "(self, other)", "Image.size_of": "(self, unit)",
    "Image.ask": "(self, question, units=None)", "Image.table_back": "(self, units=None)",
    "Sites.site_of": "(self, unit)", "Sites.units_at": "(self, numbers)", "Sites.units_off": "(self, numbers)",
    "Sites.read": "(text, layout)", "Book.with_question": "(self, name, question)", "Book.without": "(self, name)",
    "Book.told_by": "(self, layout, units, bare=None)", "Book.least_units": "(self, layout, price, bare=None)",
    "Book.__call__": "(self, table)", "Book.read": "(text, shape)", "Plan.read": "(text)",
    "Poly.of": "(question)", "Poly.integer": "(shape, value)",
    "Poly.read": "(text, shape)", "Poly.__call__": "(self, table)", "Order.fits": "(self, layout)", "Order.read": "(text)",
    "Order.writes": "(self, layout, place, journal='none')", "Vault.of": "(layout, answers, marks=None)",
    "Vault.read_unit": "(self, unit)", "Vault.lose": "(self, *units)", "Vault.trial": "(self)", "Vault.tried": "(self, work)",
    "Vault.twin": "(self)", "Vault.add": "(self, place, change)", "Vault.ask": "(self, question)",
    "Vault.table_back": "(self)", "Vault.follow": "(self, plan)", "Vault.bring": "(self, unit)",
    "Vault.bring_back": "(self)", "Vault.exchange": "(self, layout)", "Vault.mark": "(self, name)",
    "Vault.ask_at": "(self, name, question)", "Vault.undo": "(self)", "Vault.recover": "(self)", "Vault.heal": "(self)",
    "Vault.crash": "(self, order, place, amount, moment, journal='none')", "Script.without": "(self, n)",
    "Script.read": "(text, shape)", "Desk.say": "(self, line)", "Desk.run": "(self, *lines)", "Desk.__call__": "(self, line)",
    "Plan.sum_on": "(self, layout)", "Plan.__call__": "(self, image)", "Over.__call__": "(self, image)",
}
PLAIN = ["index_of", "whole", "none", "of_keys", "of_days", "read", "of", "with_amount", "lowest", "weigh", "directions",
         "direction_for", "told_part", "units_on", "touched_by", "answers", "span_of", "moved", "changed_from", "size_of",
         "ask", "table_back", "site_of", "units_at", "units_off", "with_question", "without", "told_by", "least_units", "sum_on",
         "integer", "fits", "writes", "read_unit", "lose", "trial", "tried", "twin", "add", "follow", "bring", "bring_back",
         "exchange", "mark", "ask_at", "undo", "crash", "recover", "heal", "say", "run"]
SIGNS = ["add"]
STATIC = ["Part.whole", "Part.none", "Part.of_keys", "Part.of_days", "Table.of", "Question.of", "Question.none",
          "Image.of", "Poly.of", "Poly.integer", "Vault.of"]


def module(name):
    return importlib.import_module(f"rowvault.{name}")


class Interface(unittest.TestCase):
    def test_functions(self):
        for name, functions in FUNCTIONS.items():
            for word, arguments in functions.items():
                one = getattr(module(name), word)
                self.assertEqual(one.__module__, f"rowvault.{name}")
                self.assertEqual(str(inspect.signature(one)), arguments)
                self.assertEqual(inspect.isgeneratorfunction(one), word in GENERATORS.get(name, []))

    def test_classes(self):
        for name, classes in CLASSES.items():
            for word, (arguments, methods, properties) in classes.items():
                one = getattr(module(name), word)
                self.assertEqual(one.__module__, f"rowvault.{name}")
                if arguments is not None:
                    self.assertEqual(str(inspect.signature(one)), arguments)
                for method in methods.split():
                    plain = method in PLAIN and (method not in SIGNS or word == "Vault")
                    self.assertIn(method if plain else f"__{method}__", vars(one), word)
                for method in properties.split():
                    self.assertIsInstance(vars(one)[method], property)

    def test_arguments(self):
        for word, arguments in ARGUMENTS.items():
            class_name, method = word.split(".")
            found = [getattr(module(name), class_name) for name in CLASSES if class_name in CLASSES[name]]
            self.assertEqual(str(inspect.signature(getattr(found[0], method))), arguments, word)
            own = vars(found[0])[method]
            self.assertEqual(isinstance(own, classmethod), method == "read")
            self.assertEqual(isinstance(own, staticmethod), word in STATIC)

    def test_bases(self):
        cuts, kinds = module("cuts"), module("kinds")
        for one in (cuts.Every, cuts.Leads, cuts.Sizes):
            self.assertTrue(issubclass(one, cuts.Cut))
        for one in (kinds.Blocks, kinds.Pages, kinds.Cells, kinds.Buckets, kinds.Stripes):
            self.assertTrue(issubclass(one, kinds.Kind))

    def test_attributes_and_properties(self):
        shape = module("shapes").Shape(["a"], 1)
        layout, table = module("layouts").Layout(shape), module("tables").Table(shape)
        made = [shape, layout, table, module("parts").Part(shape), module("questions").Question(shape, {}),
                module("spans").Span(shape), module("images").Image(layout, table)]
        attributes = ["key_names days places", "shape units", "shape amounts", "shape places", "shape weights part",
                      "shape given", "layout"]
        properties = ["", "kinds", "", "", "", "rows", "extent bare"]
        for one, plain, told in zip(made, attributes, properties):
            for name in plain.split():
                self.assertIn(name, vars(one))
            for name in told.split():
                self.assertIsInstance(vars(type(one))[name], property)
                kept = getattr(one, name)
                # What never changes cannot be given other properties.
                self.assertRaises(AttributeError, setattr, one, name, None)
                self.assertEqual(getattr(one, name), kept)

    def test_plans(self):
        plans = module("plans")
        for name in ("Read", "Given", "Added", "Less", "Scaled", "Over"):
            self.assertTrue(issubclass(getattr(plans, name), plans.Plan))

    def test_class_values(self):
        kinds = module("kinds")
        self.assertEqual(vars(module("orders").Order)["WORDS"], ("block", "page", "cell", "bucket", "parity"))
        made = [kinds.Blocks, kinds.Pages, kinds.Cells, kinds.Buckets, kinds.Stripes]
        self.assertEqual([vars(one)["WORD"] for one in made], ["block", "page", "cell", "bucket", "parity"])
        self.assertEqual(module("layouts").Layout.MOST, 60)


if __name__ == "__main__":
    unittest.main()
