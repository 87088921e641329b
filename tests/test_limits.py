import unittest

from threereckons.limits import LIMIT, ROUNDS


class Limits(unittest.TestCase):
    def test_numbers(self):
        for told, due in ((LIMIT, 400), (ROUNDS, 120)):
            self.assertIs(type(told), int)
            self.assertEqual(told, due)


if __name__ == "__main__":
    unittest.main()
