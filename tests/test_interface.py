"""What the interface lists: each function, defined in its file, with its arguments."""

import importlib
import inspect
import unittest

FUNCTIONS = {
    "houses": ("require_house(value)", "contents(house)"),
    "moves": ("done(house, content, move)", "moves(house, content)"),
    "histories": ("come_to(house)", "walked(house, content, history)", "road_to(house, content)"),
    "rings": ("is_ring(house, value)", "turned(house, ring)"),
    "tariffs": (
        "require_tariff(house, value)", "charge(tariff, counts)", "is_fair(house, tariff)", "short_ring(house, tariff)",
    ),
    "stocks": (
        "needs(house, tariff)", "needing(house, tariff, content)", "sure(house, tariff, *, start)",
        "spending(house, tariff, content)",
    ),
    "worths": ("worth(house, mix)", "best_tariff(house, mix)"),
    "plans": ("best_plan(house, mix)", "plan_pays(house, plan)", "is_within(house, plan, mix)"),
    "home": ("strays(house)", "comes_home(house)", "home_road(house, content)", "round_all(house, plan, *, laps)"),
    "fronts": ("front(house)", "front_rings(house)"),
    "mosts": ("most(house, limits)", "most_history(house, limits)"),
    "pairs": ("excess(house, other)", "excess_history(house, other)", "excess_ring(house, other)"),
    "wins": ("winning_mix(house, other)",),
    "claims": ("require_claim(house, claim)", "decide(house, claim)"),
    "checker": ("first_fault(house, certificate)",),
    "texts": ("format_house(house)", "format_tariff(tariff)", "parse_house(text)", "parse_tariff(text, house)"),
}


STREET = (
    "__init__(self, houses, tariff, *, stock=0)", "__len__(self)", "do(self, which, deed, way)", "purse(self)",
    "paid(self)", "houses(self)", "tariff(self)", "content(self, which)", "counts(self, which)", "forecast(self)",
    "set_tariff(self, tariff)", "set_deed(self, which, index, deed)", "go_home(self, which)", "pay_in(self, amount)",
    "checkpoint(self)", "restore(self, number)", "decide(self, which, claim)", "record(self, which, claim)",
    "records(self)", "recorded(self, number)", "standing(self, number)",
)


class InterfaceTest(unittest.TestCase):
    def test_street(self):
        street = importlib.import_module("paidahead.streets").Street
        self.assertTrue(inspect.isclass(street))
        self.assertEqual(street.__module__, "paidahead.streets")
        for told in STREET:
            with self.subTest(method=told):
                # In the class itself, not only in a base class.
                method = vars(street)[told.partition("(")[0]]
                self.assertTrue(inspect.isfunction(method))
                self.assertEqual(method.__name__ + str(inspect.signature(method)), told)

    def test_functions(self):
        for file, listed in FUNCTIONS.items():
            module = importlib.import_module("paidahead." + file)
            for told in listed:
                with self.subTest(file=file, function=told):
                    function = getattr(module, told.partition("(")[0])
                    self.assertTrue(inspect.isfunction(function))
                    self.assertEqual(function.__module__, module.__name__)
                    self.assertEqual(function.__name__ + str(inspect.signature(function)), told)


if __name__ == "__main__":
    unittest.main()
