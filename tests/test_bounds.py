import unittest

from narrowadds import bounds


class Bounds(unittest.TestCase):
    def test_all_bounds_are_as_listed(self):
        listed = {
            "MAX_REGISTERS": 6, "MAX_SIZE": 1000000000000000000000000000000, "MAX_PRIME": 97,
            "MAX_FACTOR": 1000000000000000000000000000000 ** 2, "MAX_DEEDS": 1000000,
            "MAX_POWER": 1000000000000000000000000000000, "MAX_NAMES": 8, "MAX_NAME": 8, "MAX_NEST": 12, "BATCH": 12,
            "MAX_EDITS": 40,
        }
        self.assertEqual({name: worth for name, worth in vars(bounds).items() if name[0] != "_"}, listed)
        for name in listed:
            self.assertIs(type(getattr(bounds, name)), int)
