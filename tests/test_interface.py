"""The interface: names, parameters, and where each function and class is defined."""

import ast
import importlib
import inspect
import pathlib
import unittest

PACKAGE = pathlib.Path(__file__).resolve().parent.parent / "behindtaps"
MODULES = {
    "errors": "",
    "numbers": "is_number(value), number(top, bottom)",
    "lots": "lots(taps), plain_lots(taps, sort), opposite(taps, lot), plain_lot(taps, lot)",
    "inequalities": "solved(rows), least(rows, aim), is_solved(rows, value), is_least(rows, aim, value), "
                    "tight(rows, point)",
    "nets": "is_net(value), sort_of(net), is_of_sort(net, sort), places_of(net), inner_of(net), beside(first, second), "
            "scaled(net, factor), renamed_net(net, names), without_empty(net), turned_net(net), "
            "melted_net(net, kept, gone), hidden_net(net, tap), as_leads(net), as_hubs(net), as_pipes(net)",
    "flows": "side_cost(net, side), is_side(net, source, target, value), least_side(net, source, target), "
             "is_flow(net, source, target, value), amount_of(net, source, target, flow), "
             "greatest_flow(net, source, target), flow_between(net, source, target), wall(net, lot), walls(net), "
             "alike_nets(net, another)",
    "nettexts": "net_text(net), read_net(text)",
    "claims": "is_claim(value), claim_of(taps, terms), greater(claim), lesser(claim), plain_form(claim, sort), "
              "whole_form(claim, sort), alike_claims(claim, other, sort), claim_worth(claim, net), holds(claim, net), "
              "table_worth(claim, sort, table), added(claim, other), multiplied(claim, factor), "
              "renamed_claim(claim, names), sum_or_table(claims, claim, sort), "
              "is_sum_or_table(claims, claim, sort, value), opened_claim(claim, one, new), "
              "melted_claim(claim, one, other)",
    "stars": "even_sets(taps), star_net(taps, widths), star_shares(net), star_worths(claim), "
             "claim_by_stars(taps, worths), parting_stars(claim, other)",
    "claimtexts": "claim_text(claim), read_claim(text), claims_text(claims), read_claims(text)",
}


def told_functions(text):
    """The dict from each name to its parameters."""
    told = {}
    for words in text.split("),"):
        name, _, parameters = words.strip().rstrip(")").partition("(")
        if name:
            told[name] = parameters.split(", ")
    return told


class InterfaceTest(unittest.TestCase):
    def test_functions_are_defined_in_their_files_with_their_parameters(self):
        for module, text in MODULES.items():
            tree = ast.parse((PACKAGE / f"{module}.py").read_text(encoding="utf-8"))
            defined = {node.name for node in tree.body if isinstance(node, ast.FunctionDef)}
            for name, parameters in told_functions(text).items():
                self.assertIn(name, defined, module)
                function = getattr(importlib.import_module(f"behindtaps.{module}"), name)
                self.assertEqual(list(inspect.signature(function).parameters), parameters, name)

    def test_the_package_itself_defines_nothing(self):
        tree = ast.parse((PACKAGE / "__init__.py").read_text(encoding="utf-8"))
        self.assertTrue(all(isinstance(node, ast.Expr) for node in tree.body))

    def test_modules_import_only_from_those_named_before(self):
        order = list(MODULES)
        for at, module in enumerate(order):
            tree = ast.parse((PACKAGE / f"{module}.py").read_text(encoding="utf-8"))
            for node in ast.walk(tree):
                if isinstance(node, ast.ImportFrom) and node.module.partition(".")[2] in order:
                    self.assertIn(node.module.partition(".")[2], order[:at], module)


if __name__ == "__main__":
    unittest.main()
