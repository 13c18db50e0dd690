import unittest

from wherebegun import limits

EXPECTED = {
    "MOST_SIGNS": 4,
    "MOST_STATES": 6,
    "MOST_WORD": 600,
    "MOST_STANDS": 600,
    "MOST_ROUNDS": 99,
    "MOST_TOTAL": 30,
    "MOST_LENGTH": 9,
    "MOST_CHANGES": 6,
    "MOST_WARM": 9,
    "MOST_TIMES": 9,
}


class LimitsTest(unittest.TestCase):
    def test_each_constant_has_its_value(self):
        for name, value in EXPECTED.items():
            with self.subTest(name=name):
                found = getattr(limits, name)
                self.assertIsInstance(found, int)
                self.assertNotIsInstance(found, bool)
                self.assertEqual(found, value)

    def test_there_are_no_other_constants(self):
        found = [name for name in vars(limits) if not name.startswith("_")]
        self.assertEqual(sorted(found), sorted(EXPECTED))


if __name__ == "__main__":
    unittest.main()
