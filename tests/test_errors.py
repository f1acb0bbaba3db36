import unittest

from shownshort import errors
from shownshort.shorteners import Shortener

PYTHON_BASES = {"InputError": ValueError, "StateError": LookupError, "SizeError": ArithmeticError}

# For each class its base in the module and its attribute.
LISTED = {
    "InvalidNumber": ("InputError", "value"),
    "InvalidMark": ("InputError", "value"),
    "InvalidText": ("InputError", "value"),
    "InvalidLength": ("InputError", "value"),
    "InvalidRule": ("InputError", "value"),
    "InvalidWidth": ("InputError", "value"),
    "InvalidPlace": ("InputError", "value"),
    "InvalidLine": ("InputError", "value"),
    "NotANamer": ("InputError", "value"),
    "NotAShelf": ("InputError", "value"),
    "InvalidRow": ("InputError", "index"),
    "InvalidViews": ("InputError", "index"),
    "InvalidTexts": ("InputError", "index"),
    "InvalidDeeds": ("InputError", "index"),
    "NothingToUndo": ("StateError", None),
    "Busy": ("StateError", None),
    "UnknownName": ("StateError", "value"),
    "TooMany": ("SizeError", "limit"),
}


def nested(levels):
    told = ()
    for level in range(levels):
        told = [told] if level % 2 else (told,)
    return told


ANY_KIND = (
    None, True, False, 0, -1, 10 ** 19, "", "abc", "A" * 400, b"ab", (), (1, "a"), [], [1, [2]], {}, {"a": (1,)},
    set(), {1, 2}, len, str, object(), ValueError("x"), Shortener(8, 3, 2, "..."), nested(15),
)


class ErrorsTest(unittest.TestCase):
    def with_attribute(self):
        return [(getattr(errors, name), name, held) for name, (_, held) in LISTED.items() if held]

    def made(self, name):
        attribute = LISTED[name][1] if name in LISTED else None
        made_by = getattr(errors, name)
        return made_by("a") if attribute else made_by()

    def test_made_by_position(self):
        for made_by, name, attribute in self.with_attribute():
            for worth in ANY_KIND:
                with self.subTest(name, worth=repr(worth)):
                    self.assertIs(getattr(made_by(worth), attribute), worth)

    def test_made_by_name(self):
        for made_by, name, attribute in self.with_attribute():
            for worth in ANY_KIND:
                with self.subTest(name, worth=repr(worth)):
                    self.assertIs(getattr(made_by(**{attribute: worth}), attribute), worth)

    def test_just_one_argument_under_its_name(self):
        for made_by, name, attribute in self.with_attribute():
            with self.subTest(name):
                self.assertRaises(TypeError, made_by)
                self.assertRaises(TypeError, made_by, 1, 2)
                self.assertRaises(TypeError, made_by, **{"other_" + attribute: 1})

    def test_made_without_arguments(self):
        for name in [*PYTHON_BASES, "NothingToUndo", "Busy"]:
            with self.subTest(name):
                made_by = getattr(errors, name)
                self.assertIs(type(made_by()), made_by)

    def test_bases(self):
        for name, (base, _) in LISTED.items():
            with self.subTest(name):
                self.assertEqual(getattr(errors, name).__bases__, (getattr(errors, base),))
                self.assertIsInstance(self.made(name), PYTHON_BASES[base])
        for name, python_base in PYTHON_BASES.items():
            with self.subTest(name):
                self.assertEqual(getattr(errors, name).__bases__, (python_base,))

    def test_instance_of_no_other_class_of_the_module(self):
        for name in [*LISTED, *PYTHON_BASES]:
            own = {name, LISTED[name][0]} if name in LISTED else {name}
            made = self.made(name)
            for other in [*LISTED, *PYTHON_BASES]:
                with self.subTest(name, other=other):
                    self.assertEqual(isinstance(made, getattr(errors, other)), other in own)

    def test_instance_of_no_other_base_of_python(self):
        for name in [*LISTED, *PYTHON_BASES]:
            own = PYTHON_BASES[LISTED[name][0] if name in LISTED else name]
            for python_base in PYTHON_BASES.values():
                with self.subTest(name, python_base=python_base):
                    self.assertEqual(isinstance(self.made(name), python_base), python_base is own)

    def test_can_be_raised_and_caught(self):
        for name in [*LISTED, *PYTHON_BASES]:
            with self.subTest(name):
                made = self.made(name)
                with self.assertRaises(getattr(errors, name)) as caught:
                    raise made
                self.assertIs(caught.exception, made)

    def test_true_and_comparable(self):
        for name in [*LISTED, *PYTHON_BASES]:
            with self.subTest(name):
                made = self.made(name)
                self.assertIs(bool(made), True)
                self.assertIs(made == made, True)
                for other in ANY_KIND:
                    self.assertIs(made == other, False)
                    self.assertIs(made != other, True)


if __name__ == "__main__":
    unittest.main()
