"""That each name of the interface stands in its module, with the parameters by the names of the document."""

import importlib
import inspect
import unittest

# Of a class the parameters of __init__ stand beside its own name.
NAMES = {
    "errors": {
        "BadPeople": "value", "BadLot": "value", "BadClause": "place", "BadBook": "place", "BadRow": "value",
        "BadWish": "value", "BadNumber": "value", "BadPaper": "place", "BadText": "line", "TooMany": "most"},
    "people": {"need_people": "thing", "is_lot": "people, thing", "all_lots": "people"},
    "clauses": {"Clause": "people, slots, cap=None, sums=()", "Clause.changed": "field, value"},
    "books": {
        "Book": "people, clauses, lent=()", "Book.adding": "clause", "Book.without": "number",
        "Book.lending": "one, other", "Book.as_one": "one, other", "Book.leaving": "person"},
    "hands": {
        "fillers": "book, number", "signs": "book, lot, number", "filling": "book, lot, number",
        "short": "book, lot, number", "is_filling": "book, lot, number, thing", "is_short": "book, lot, number, thing"},
    "covers": {
        "least_cost": "clause, days", "cover": "clause, days", "is_cover": "clause, days, thing",
        "spread": "clause, days"},
    "reach": {
        "keeps": "book, row", "makes": "book, lot, row", "at_once": "book, lot", "gathers": "book, lot, days",
        "paper": "book, lot, days", "check": "book, lot, days, thing"},
    "lots": {
        "fulfils": "book, lot, wish", "least_lots": "book, wish", "bars": "book, wish", "levels": "book, days",
        "spared": "book, wish"},
    "compare": {"alike": "one, other", "parting": "one, other", "never_needed": "book"},
    "second": {"signs_too": "book, lot, number", "cost_too": "clause, days"},
    "desk": {
        "Desk": "book", "Desk.day": "", "Desk.left": "lot, day", "Desk.pay": "lot, payment", "Desk.undo": "many=1",
        "Desk.trial": "", "tried": "desk, function"},
    "texts": {
        "clause_text": "clause", "read_clause": "people, text", "book_text": "book", "read_book": "text"},
}
OPERATORS = {
    ("clauses", "Clause"): ["__eq__"], ("books", "Book"): ["__len__", "__getitem__", "__eq__"],
    ("desk", "Desk"): ["__len__", "__eq__"],
}


def parameters(thing, own):
    """The parameters of a function, of a method without its own object."""
    told = list(inspect.signature(thing).parameters.values())[own:]
    return ", ".join(str(parameter) for parameter in told)


class Interface(unittest.TestCase):

    def test_names_and_parameters(self):
        for file, names in NAMES.items():
            module = importlib.import_module(f"whomaysign.{file}")
            for name, told in names.items():
                thing = module
                for part in name.split("."):
                    thing = vars(thing)[part]
                self.assertEqual(thing.__module__, module.__name__, name)
                made = vars(thing)["__init__"] if isinstance(thing, type) else thing
                self.assertEqual(parameters(made, "." in name or isinstance(thing, type)), told, name)

    def test_operators_and_properties(self):
        for (file, name), operators in OPERATORS.items():
            own = vars(getattr(importlib.import_module(f"whomaysign.{file}"), name))
            for operator in operators:
                self.assertTrue(inspect.isfunction(own[operator]), (name, operator))
        desk = importlib.import_module("whomaysign.desk").Desk
        self.assertIsInstance(vars(desk)["row"], property)

    def test_each_parameter_by_position_and_by_name(self):
        for file, names in NAMES.items():
            module = importlib.import_module(f"whomaysign.{file}")
            for name in names:
                thing = module
                for part in name.split("."):
                    thing = getattr(thing, part)
                for parameter in inspect.signature(thing).parameters.values():
                    self.assertEqual(parameter.kind, parameter.POSITIONAL_OR_KEYWORD, name)


if __name__ == "__main__":
    unittest.main()
