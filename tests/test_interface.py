"""The interface: names, parameters, and where each function and class is defined."""

import ast
import importlib
import inspect
import pathlib
import unittest

PACKAGE = pathlib.Path(__file__).resolve().parent.parent / "behindtaps"
MODULES = {
    "errors": "",
    "numbers": "is_number(value), number(top, bottom)",
    "lots": "lots(taps), plain_lots(taps, sort), opposite(taps, lot), plain_lot(taps, lot)",
    "inequalities": "solved(rows), least(rows, aim), is_solved(rows, value), is_least(rows, aim, value), "
                    "tight(rows, point)",
    "nets": "is_net(value), sort_of(net), is_of_sort(net, sort), places_of(net), inner_of(net), beside(first, second), "
            "scaled(net, factor), renamed_net(net, names), without_empty(net), turned_net(net), "
            "melted_net(net, kept, gone), hidden_net(net, tap), as_leads(net), as_hubs(net), as_pipes(net)",
    "flows": "side_cost(net, side), is_side(net, source, target, value), least_side(net, source, target), "
             "is_flow(net, source, target, value), amount_of(net, source, target, flow), "
             "greatest_flow(net, source, target), flow_between(net, source, target), wall(net, lot), walls(net), "
             "alike_nets(net, another)",
    "nettexts": "net_text(net), read_net(text)",
    "claims": "is_claim(value), claim_of(taps, terms), greater(claim), lesser(claim), plain_form(claim, sort), "
              "whole_form(claim, sort), alike_claims(claim, other, sort), claim_worth(claim, net), holds(claim, net), "
              "table_worth(claim, sort, table), added(claim, other), multiplied(claim, factor), "
              "renamed_claim(claim, names), sum_or_table(claims, claim, sort), "
              "is_sum_or_table(claims, claim, sort, value), opened_claim(claim, one, new), "
              "melted_claim(claim, one, other)",
    "stars": "even_sets(taps), star_net(taps, widths), star_shares(net), star_worths(claim), "
             "claim_by_stars(taps, worths), parting_stars(claim, other)",
    "claimtexts": "claim_text(claim), read_claim(text), claims_text(claims), read_claims(text)",
    "cubes": "corners(claim, sort), tap_corners(claim, sort), spans(claim, sort), is_paper(claim, sort, value), "
             "cube_places(claim, sort), cube_net(claim, sort, widths)",
    "verdicts": "verdict(claim, sort), greatest_share(claim, sort, lot)",
    "flowclaims": "is_flow_claim(value), flow_worth(claim, net), standings(claim), "
                  "is_flow_paper(claim, sort, standing, value), flow_verdict(claim, sort)",
    "widest": "is_rule(taps, way, value), rule_worth(claim, way, rule), steps_claim(taps, way, steps), "
              "is_derivation(claim, way, value, given=()), widest(claim, way, given=()), four_lots(taps)",
    "sorts": "realms_of(claim), parting(claim, realm, other), led_paper(claim, paper), one_way_net(net)",
    "kinds": "kinds(taps, sort), is_table(taps, sort, value), checks(taps, sort), first_failed(taps, sort, table), "
             "reached(taps, sort, table), verdict_by_kinds(claim, sort)",
    "forms": "is_form(value), form_of_net(net), form_of_table(taps, sort, table), table_of_form(form), net_of_form(form), "
             "sum_of_forms(one, other), form_times(form, factor), melted_form(form, kept, gone), hidden_form(form, tap), "
             "straight(net)",
    "facts": "is_fact(taps, value), measured(taps, walls), keeps(net, facts), rest(taps, facts, weights, fact), "
             "is_reason(taps, facts, sort, fact, value), follows(taps, facts, sort, fact)",
    "ranges": "least_sum(taps, facts, sort, terms), range_of(taps, facts, sort, lot), ranges(taps, facts, sort), "
              "settled(taps, facts, sort), enough(taps, facts, sort, fact)",
    "sendings": "parted(net, wishes, lot), is_sending(net, value), carried(net, sending), loads(net, sending), "
                "distance(net, lengths, pair), is_bar(net, wishes, value), shrunk(net, sending, factor), "
                "mixed(net, sending, more, factor), sent_beside(first, sending, second, more)",
    "shares": "share(net, wishes), sent(net, wishes), at_once(net, wishes)",
    "works": "is_work(value), boxes_of(work), inner_joints(work), with_nets(work, nets), work_form(work, contents), "
             "side_sums(work, lot), work_worth(work, lot, contents), nested(work, name, inner)",
    "worksums": "least_sums(work, lot), sum_verdict(work, lot, counts), always(terms, told=()), "
                "is_always_paper(terms, told, value), told_apart(first, second), needless_boxes(work), "
                "needless_pipes(work), thinned(work)",
    "days": "is_story(value, trend), is_day_claim(value), plain_days(claim, sort), day_worth(claim, story), "
            "turned_days(claim), pressed_days(claim), without_days(claim), day_parts(claim)",
    "daycubes": "is_day_paper(claim, sort, trend, value), day_verdict(claim, sort, trend), "
                "cube_story(claim, sort, trend, widths), trends_of(claim, sort)",
    "deeds": "is_deeds(taps, value), are_of_sort(taps, deeds, sort), taps_behind(taps, deeds), done(net, deeds), "
             "outside(taps, sort, table, deeds), first_unlike(taps, sort, table, other), options(taps, sort, deeds), "
             "deeds_verdict(taps, sort, deeds, others), is_alike_paper(taps, sort, deeds, others, value)",
    "needs": "needs(taps, sort, deeds), behind_needed(taps, sort, deeds, walls_told)",
    "live": "",
    "journals": "journal_text(house), entries_text(house), played(text)",
    "desk": "",
}
CLASSES = {
    "sorts": {"ClaimBook": ("(taps, claims=())", "taps", "put(claim), drop(claim), claims(), holding(realm), "
                            "follows(claim, way), needed(way), joined(other), __eq__(other), __len__()")},
    "live": {"House": ("(taps, sort)", "taps, of_sort", "tell(terms, bound), measure(lot, number), back(), again(), entries(), "
                       "facts(), log(), copy(), range_of(lot), ranges(), settled(), follows(terms, bound), net(), "
                       "conflicts(terms, bound), ways_out(terms, bound), thinned(), __eq__(other), __len__()")},
    "desk": {"Desk": ("()", "house", "say(row)")},
}


def told_functions(text):
    """The dict from each name to its parameters."""
    told = {}
    for words in f"{text}, ".split("), "):
        if words.strip(", "):
            name, _, parameters = words.partition("(")
            told[name] = f"({parameters})"
    return told


def signature(function):
    """The parameters of a function and their default values, as the document writes them."""
    return str(inspect.signature(function))


class InterfaceTest(unittest.TestCase):
    def test_functions_are_defined_in_their_files_with_their_parameters(self):
        for module, text in MODULES.items():
            tree = ast.parse((PACKAGE / f"{module}.py").read_text(encoding="utf-8"))
            defined = {node.name for node in tree.body if isinstance(node, ast.FunctionDef)}
            for name, parameters in told_functions(text).items():
                self.assertIn(name, defined, module)
                function = getattr(importlib.import_module(f"behindtaps.{module}"), name)
                self.assertEqual(signature(function), parameters, name)

    def test_classes_define_their_methods_themselves(self):
        for module, classes in CLASSES.items():
            tree = ast.parse((PACKAGE / f"{module}.py").read_text(encoding="utf-8"))
            bodies = {node.name: node.body for node in tree.body if isinstance(node, ast.ClassDef)}
            for name, (parameters, attributes, methods) in classes.items():
                made = getattr(importlib.import_module(f"behindtaps.{module}"), name)
                self.assertEqual(signature(made), parameters)
                defined = {node.name for node in bodies[name] if isinstance(node, ast.FunctionDef)}
                for method, wanted in told_functions(methods).items():
                    self.assertIn(method, defined, name)
                    self.assertEqual(signature(getattr(made, method)).replace("(self, ", "(").replace("(self)", "()"),
                                     wanted)
                for attribute in attributes.split(", "):
                    self.assertNotIn(attribute, defined)

    def test_the_package_itself_defines_nothing(self):
        tree = ast.parse((PACKAGE / "__init__.py").read_text(encoding="utf-8"))
        self.assertTrue(all(isinstance(node, ast.Expr) for node in tree.body))

    def test_modules_import_only_from_those_named_before(self):
        order = list(MODULES)
        for at, module in enumerate(order):
            tree = ast.parse((PACKAGE / f"{module}.py").read_text(encoding="utf-8"))
            for node in ast.walk(tree):
                if isinstance(node, ast.ImportFrom) and node.module.partition(".")[2] in order:
                    self.assertIn(node.module.partition(".")[2], order[:at], module)


if __name__ == "__main__":
    unittest.main()
