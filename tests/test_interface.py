import importlib
import inspect
import unittest

LANDED = {
    "numbers": [
        "gcd_of(numbers)",
        "divisors(number)",
        "fraction(top, bottom=1)",
        "add_fractions(one, other)",
        "multiply_fractions(one, other)",
    ],
    "forms": [
        "is_form(thing, size)",
        "dot(form, vector)",
        "add_forms(one, other)",
        "scale_form(factor, form)",
    ],
}


class InterfaceTest(unittest.TestCase):
    def test_names_and_arguments(self):
        for file, signatures in LANDED.items():
            module = importlib.import_module("hushgrain." + file)
            for signature in signatures:
                name = signature[:signature.index("(")]
                thing = getattr(module, name)
                self.assertEqual(thing.__module__, module.__name__)
                self.assertEqual(name + str(inspect.signature(thing)), signature)

    def test_errors_stand_in_their_file(self):
        module = importlib.import_module("hushgrain.errors")
        for thing in vars(module).values():
            if isinstance(thing, type):
                self.assertEqual(thing.__module__, "hushgrain.errors")


if __name__ == "__main__":
    unittest.main()
