import unittest

from narrowadds import errors
from tests.values import other_values

FIELDS = {
    "Unfit": None, "BadText": None, "BadMachine": "error", "BadProgram": "error", "Barred": "paper", "Apart": "paper",
    "TooMany": "limit", "NoName": "given", "Taken": "given", "BadBatch": None, "Rejected": "place",
    "TooManyEdits": None, "NothingToUndo": None, "NothingToRedo": None, "NoVersion": "given", "BadLog": "place",
}
KEEPING = [(getattr(errors, name), field) for name, field in FIELDS.items() if field is not None]
BARE = [getattr(errors, name) for name, field in FIELDS.items() if field is None]


class Errors(unittest.TestCase):
    def test_there_are_just_these(self):
        found = {name for name, worth in vars(errors).items() if isinstance(worth, type)}
        self.assertEqual(found, set(FIELDS) | {"AddsError"})

    def test_all_stand_directly_under_the_one(self):
        self.assertEqual(errors.AddsError.__bases__, (ValueError,))
        for name in FIELDS:
            self.assertEqual(getattr(errors, name).__bases__, (errors.AddsError,), name)

    def test_they_are_defined_in_this_file_under_their_names(self):
        for name in [*FIELDS, "AddsError"]:
            self.assertEqual(getattr(errors, name).__module__, "narrowadds.errors")
            self.assertEqual(getattr(errors, name).__name__, name)

    def test_bare_ones_are_made_and_raised_without_arguments(self):
        for kind in BARE:
            self.assertEqual(vars(kind()), {})
            with self.assertRaises(kind):
                raise kind()

    def test_what_is_passed_by_place_is_kept(self):
        for kind, field in KEEPING:
            for value in other_values():
                error = kind(value)
                self.assertEqual(list(vars(error)), [field])
                self.assertIs(getattr(error, field), value)

    def test_what_is_passed_by_name_is_kept(self):
        for kind, field in KEEPING:
            for value in other_values():
                error = kind(**{field: value})
                self.assertEqual(list(vars(error)), [field])
                self.assertIs(getattr(error, field), value)

    def test_the_very_thing_is_kept_also_where_it_is_changed_later(self):
        for kind, field in KEEPING:
            row, table, both = [1, [2]], {"a": [3]}, ([4], {5: 6})
            kept = [kind(row), kind(table), kind(**{field: both})]
            row[1].append(7)
            row.append(8)
            table["b"] = 9
            both[0].clear()
            self.assertIs(getattr(kept[0], field), row)
            self.assertIs(getattr(kept[1], field), table)
            self.assertIs(getattr(kept[2], field), both)
            self.assertEqual([getattr(error, field) for error in kept],
                             [[1, [2, 7], 8], {"a": [3], "b": 9}, ([], {5: 6})])

    def test_errors_do_not_share_what_they_keep(self):
        for kind, field in KEEPING:
            one, other = kind(1), kind("one")
            self.assertEqual((getattr(one, field), getattr(other, field)), (1, "one"))

    def test_making_one_changes_nothing(self):
        for kind, _ in KEEPING:
            for value, same in zip(other_values(), other_values()):
                told = repr(same) if not isinstance(same, errors.AddsError) else ""
                kind(value)
                if told:
                    self.assertEqual(repr(value), told)

    def test_they_are_raised_and_caught_by_each_of_their_classes(self):
        for kind, field in KEEPING:
            for wanted in (kind, errors.AddsError, ValueError):
                with self.assertRaises(wanted) as caught:
                    raise kind(("deed", 1))
                self.assertEqual(getattr(caught.exception, field), ("deed", 1))

    def test_arguments_are_neither_missing_nor_too_many(self):
        for kind, field in KEEPING:
            with self.assertRaises(TypeError):
                kind()
            with self.assertRaises(TypeError):
                kind(1, 2)
