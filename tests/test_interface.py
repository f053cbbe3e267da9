"""The interface: modules, names and arguments as the document has them."""

import importlib
import inspect
import operator
import unittest

INTERFACE = {
    "blocks": {
        "is_block": ["bits", "thing"], "size_of": ["block"], "holds": ["one", "other"], "apart": ["one", "other"],
        "halves": ["block"], "around": ["block", "height"], "other_half": ["block"],
    },
    "beginnings": {"beginning": ["bits", "block"], "block_of": ["bits", "text"]},
    "patches": {
        "is_patch": ["bits", "thing"], "is_fewest": ["patch"], "count_of": ["patch"], "fewest": ["blocks"],
        "span": ["low", "high"], "rest_of": ["bits", "patch"], "both": ["one", "other"], "without": ["one", "other"],
        "block_with": ["patch", "address"],
    },
    "rules": {"are_rules": ["bits", "thing"], "decided": ["rules", "address"], "patch_by": ["bits", "rules"]},
    "fewrules": {"fewest_rules": ["bits", "patch"], "many_rules": ["bits", "patch"]},
    "rulepapers": {"rules_paper": ["bits", "patch"], "shows_many": ["bits", "patch", "many", "paper"]},
    "errors": {"NoText": ["row"]},
    "deals": {
        "is_deal": ["thing"], "free_for": ["deal", "name"], "out_to": ["deal", "name"], "holder": ["deal", "address"],
    },
    "deeds": {"is_deed": ["bits", "thing"]},
    "dealing": {"done": ["deal", "deed"]},
    "refusals": {"had": ["deal", "name", "height"], "shows_none": ["deal", "name", "height", "paper"]},
    "moves": {"least_moves": ["deal", "name", "height", "stays", "most"]},
    "movelooks": {
        "shows_moves": ["deal", "name", "height", "stays", "moves", "levels"],
        "shows_never": ["deal", "name", "height", "stays", "levels"],
    },
    "dealers": {
        "Dealer": ["bits"], "Dealer.do": ["deed"], "Dealer.deal": [], "Dealer.journal": [], "Dealer.back": [],
        "Dealer.lists": [], "Dealer.can": ["name", "height"],
    },
    "houses": {
        "is_house": ["bits", "thing"], "House": ["bits", "dealers"], "House.ask": ["dealer", "person", "height"],
        "House.give": ["dealer", "person", "block"], "House.has": ["dealer"], "House.outs": ["dealer"],
        "House.free": ["dealer"], "House.path": ["address"],
    },
    "showing": {"show_deal": ["deal"], "show_rules": ["bits", "rules"]},
    "reading": {"read_deal": ["text"], "read_rules": ["bits", "text"]},
    "desk": {"Desk": ["text"], "Desk.say": ["line"]},
}


class Interface(unittest.TestCase):
    def test_names_and_arguments(self):
        for module, names in INTERFACE.items():
            found = importlib.import_module(f"blockdeal.{module}")
            for name, arguments in names.items():
                with self.subTest(module=module, name=name):
                    asked = inspect.signature(operator.attrgetter(name)(found)).parameters
                    own = ["self"] if "." in name else []
                    self.assertEqual(list(asked), own + arguments)
                    for one in asked.values():
                        self.assertIs(one.default, inspect.Parameter.empty)


if __name__ == "__main__":
    unittest.main()
