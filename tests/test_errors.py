"""[1], and the errors of the interface."""

import inspect
import unittest

from fadinginks import alike, claims, desks, errors, plans, readers, reading, running, sure

FIELDS = {
    "BadPlan": [], "BadPace": [], "NoCell": [], "BadTick": [], "BadReader": [], "BadTimetable": [], "BadReading": [],
    "BadNumber": [], "BadChoice": [], "BadClaim": [], "NoSign": [], "NoRounds": [], "NoStart": [],
    "TooMany": ["most"], "Unlike": [], "NoInk": [], "NotText": [], "InvalidText": ["place"], "Unknown": ["name"],
    "Twice": ["name"], "TooLate": [], "TooEarly": [], "NoWrite": [], "NothingDone": [],
}


class ErrorsTest(unittest.TestCase):
    def test_base(self):
        self.assertEqual(errors.InkError.__bases__, (ValueError,))
        self.assertEqual(errors.InkError.__module__, "fadinginks.errors")

    def test_direct_subclasses(self):
        found = {name: made for name, made in vars(errors).items() if inspect.isclass(made)}
        self.assertEqual(sorted(found), sorted(["InkError"] + list(FIELDS)))
        for name in FIELDS:
            self.assertEqual(found[name].__bases__, (errors.InkError,), name)
            self.assertEqual(found[name].__module__, "fadinginks.errors", name)

    def test_fields(self):
        for name, fields in FIELDS.items():
            for value in (0, 16, 2000, "RED", ""):
                made = getattr(errors, name)(*[value for _ in fields])
                self.assertEqual(vars(made), {field: value for field in fields}, name)
                self.assertIsInstance(str(made), str)

    def test_fields_by_keyword(self):
        self.assertEqual(errors.TooMany(most=16).most, 16)
        self.assertEqual(errors.InvalidText(place=3).place, 3)
        self.assertEqual(errors.Unknown(name="RED").name, "RED")
        self.assertEqual(errors.Twice(name="RED").name, "RED")

    def test_caught_as_value_error(self):
        for error in (ValueError, errors.InkError, errors.BadPlan):
            with self.assertRaises(error):
                plans.ticks(None, None)


class InterfaceTest(unittest.TestCase):
    def test_names_and_arguments(self):
        told = {
            plans: {
                "is_plan": "value", "ticks": "plan pace", "seen": "plan pace cell tick", "board": "plan pace tick",
                "story": "plan pace cell last",
            },
            readers: {
                "read": "plan reader timetable", "readings": "plan reader", "can_read": "plan reader reading",
                "cases": "plan reader at", "differences": "plan reader choice", "ring": "plan reader choice",
            },
            claims: {
                "is_so": "reading claim", "holds": "plan reader claim", "judged": "plan reader claim paper",
                "breaks": "plan reader claim", "paper": "plan reader claim", "slack": "plan reader claim most",
            },
            # The last one of round_readings would have the name of a builtin, which the language leaves out.
            sure: {
                "can_see": "plan cell tick", "sure": "plan cell sign last", "settled": "plan",
                "round_readings": "plan reader number",
            },
            alike: {
                "are_alike": "plan other", "parting": "plan other", "needless": "plan", "least_stay": "plan ink",
            },
            reading: {"check": "text"},
            running: {"printed": "text", "run": "text"},
            desks: {"Desk": "plan"},
        }
        for module, functions in told.items():
            for name, arguments in functions.items():
                function = getattr(module, name)
                self.assertEqual(function.__module__, module.__name__, name)
                self.assertEqual(list(inspect.signature(function).parameters), arguments.split(), name)

    def test_methods_of_desks(self):
        told = {
            "wait": "self many", "write": "self", "undo": "self", "tick": "self", "done": "self", "board": "self",
            "coming": "self cell many", "text": "self",
        }
        for name, arguments in told.items():
            self.assertEqual(list(inspect.signature(vars(desks.Desk)[name]).parameters), arguments.split(), name)
