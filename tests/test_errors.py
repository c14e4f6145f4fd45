"""The refusals: their fields, and what each stands straight under."""

import unittest

from wiretongue import errors

FIELDS = {
    "Fault": ("stage", "module", "place"),
    "Nested": ("ring",),
    "Ring": ("ring",),
    "NoRoom": ("many",),
    "NoPaper": (),
    "Unlike": (),
    "TooMany": ("most",),
    "NoText": ("place",),
    "NoName": ("name",),
    "NoPath": ("path",),
}

ABOVE = {
    "Fault": errors.WireError,
    "Nested": errors.WireError,
    "Ring": errors.WireError,
    "NoRoom": errors.WireError,
    "NoPaper": errors.WireError,
    "Unlike": errors.WireError,
    "TooMany": errors.WireError,
    "NoText": ValueError,
    "NoName": KeyError,
    "NoPath": KeyError,
}

ANYTHING = (None, True, 0, -(10 ** 39), "", "a b\n", (), (1, ("x",)), [], [[1], {}], {}, {"k": [None]})


class Errors(unittest.TestCase):
    def test_wire_error_is_straight_under_exception(self):
        self.assertEqual(errors.WireError.__bases__, (Exception,))

    def test_each_is_straight_under_its_class(self):
        for name, above in ABOVE.items():
            self.assertEqual(getattr(errors, name).__bases__, (above,), name)

    def test_none_is_under_another(self):
        for name in ABOVE:
            for other in ABOVE:
                below = issubclass(getattr(errors, name), getattr(errors, other))
                self.assertEqual(below, name == other, (name, other))

    def test_three_are_no_wire_errors(self):
        for name in ("NoText", "NoName", "NoPath"):
            self.assertFalse(issubclass(getattr(errors, name), errors.WireError))

    def test_fields_by_place(self):
        for name, fields in FIELDS.items():
            for thing in ANYTHING:
                handed = [thing] + [f"other {k}" for k in range(1, len(fields))]
                refusal = getattr(errors, name)(*handed[:len(fields)])
                for field, worth in zip(fields, handed):
                    self.assertIs(getattr(refusal, field), worth)

    def test_fields_by_name(self):
        for name, fields in FIELDS.items():
            for thing in ANYTHING:
                handed = {field: [thing, field] for field in reversed(fields)}
                refusal = getattr(errors, name)(**handed)
                for field in fields:
                    self.assertIs(getattr(refusal, field), handed[field])

    def test_fields_in_turn(self):
        fault = errors.Fault("read", "top", (3, 4))
        self.assertEqual((fault.stage, fault.module, fault.place), ("read", "top", (3, 4)))

    def test_no_field_may_lack_or_be_too_many(self):
        for name, fields in FIELDS.items():
            if fields:
                with self.assertRaises(TypeError):
                    getattr(errors, name)(*([0] * (len(fields) - 1)))
                with self.assertRaises(TypeError):
                    getattr(errors, name)(*([0] * (len(fields) + 1)))

    def test_each_can_be_raised_and_caught_by_what_is_above(self):
        for name, fields in FIELDS.items():
            with self.assertRaises(ABOVE[name]):
                raise getattr(errors, name)(*([0] * len(fields)))

    def test_what_is_handed_in_stays(self):
        rings = ["a", ["b"]]
        self.assertIs(errors.Ring(rings).ring, rings)
        self.assertEqual(rings, ["a", ["b"]])


if __name__ == "__main__":
    unittest.main()
