import inspect
import subprocess
import sys
import unittest

from countout import errors, laid, leaps, orders, rings, wishes

NONE = inspect.Parameter.empty

FUNCTIONS = [
    (laid, "is_ring", [("thing", NONE)]),
    (laid, "row_out", [("hands", NONE), ("step", NONE), ("begin", 0)]),
    (leaps, "count_of", [("many", NONE), ("step", NONE), ("begin", NONE), ("place", NONE)]),
    (leaps, "goes_at", [("many", NONE), ("step", NONE), ("begin", NONE), ("count", NONE)]),
    (leaps, "last_of", [("many", NONE), ("step", NONE), ("begin", 0)]),
    (orders, "order_of", [("many", NONE), ("step", NONE), ("begin", 0)]),
    (orders, "counts_of", [("many", NONE), ("step", NONE), ("begin", 0)]),
    (wishes, "begin_for", [("many", NONE), ("step", NONE), ("place", NONE)]),
    (wishes, "least_step", [("many", NONE), ("place", NONE), ("most", 100)]),
]

METHODS = {
    "__init__": [("hands", NONE), ("step", NONE), ("begin", 0)],
    "left": [],
    "gone": [],
    "count": [],
    "counts": [("many", NONE)],
    "come": [("hand", NONE), ("place", None)],
    "due": [("hand", NONE)],
    "last": [],
}

ERRORS = [
    "CountError", "NoRing", "NoMany", "NoStep", "NoPlace", "NoCount", "NoHand", "TwiceTold", "TooMany",
]


class Interface(unittest.TestCase):
    def test_functions_stand_in_their_files_with_their_arguments(self):
        for module, name, arguments in FUNCTIONS:
            with self.subTest(name):
                function = getattr(module, name)
                self.assertEqual(function.__module__, module.__name__)
                self.takes(function, arguments)

    def test_the_class_stands_in_its_file_with_its_methods(self):
        self.assertEqual(rings.Ring.__module__, "countout.rings")
        for name, arguments in METHODS.items():
            with self.subTest(name):
                self.assertIn(name, vars(rings.Ring))
                self.takes(vars(rings.Ring)[name], [("self", NONE)] + arguments)

    def takes(self, function, arguments):
        found = inspect.signature(function).parameters.values()
        self.assertEqual([(one.name, one.default) for one in found], arguments)
        for one in found:
            self.assertEqual(one.kind, inspect.Parameter.POSITIONAL_OR_KEYWORD)

    def test_arguments_may_be_told_by_name(self):
        self.assertTrue(laid.is_ring(thing=["a"]))
        self.assertEqual(laid.row_out(begin=1, step=2, hands=["a", "b", "c"]), ["c", "b", "a"])
        self.assertEqual(leaps.count_of(place=2, begin=1, step=2, many=3), 1)
        self.assertEqual(leaps.goes_at(count=1, begin=1, step=2, many=3), 2)
        self.assertEqual(leaps.last_of(begin=1, step=2, many=3), 0)
        self.assertEqual(orders.order_of(begin=1, step=2, many=3), [2, 1, 0])
        self.assertEqual(orders.counts_of(begin=1, step=2, many=3), [3, 2, 1])
        self.assertEqual(wishes.begin_for(place=0, step=2, many=3), 1)
        self.assertEqual(wishes.least_step(most=3, place=1, many=3), 3)
        ring = rings.Ring(begin=1, step=2, hands=["a", "b", "c"])
        ring.come(place=0, hand="d")
        self.assertEqual(ring.due(hand="b"), 1)
        self.assertEqual(ring.counts(many=2), ["b", "a"])

    def test_errors_stand_in_their_file(self):
        for name in ERRORS:
            with self.subTest(name):
                self.assertEqual(getattr(errors, name).__module__, "countout.errors")

    def test_the_package_itself_binds_nothing(self):
        # Asked of a fresh Python: imported files would be seen in this one.
        asked = "import countout; print([n for n in vars(countout) if not n.startswith('__')])"
        told = subprocess.run([sys.executable, "-c", asked], capture_output=True, text=True, check=True)
        self.assertEqual(told.stdout.strip(), "[]")


if __name__ == "__main__":
    unittest.main()
