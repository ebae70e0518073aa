import unittest

from dueyard.entries import Entry, Finished, Standing, Withdrawn


class Entries(unittest.TestCase):
    def check_fields(self, entry):
        self.assertEqual((entry.name, entry.first, entry.last, entry.work, entry.breadth), ("saw", 3, 9, 5, 2))

    def test_each_kind(self):
        for entry, word, left in [
            (Entry("saw", 3, 9, 5, 2), "asked", 5),
            (Standing("saw", 3, 9, 5, 2), "standing", 5),
            (Finished("saw", 3, 9, 5, 2), "finished", 0),
            (Withdrawn("saw", 3, 9, 5, 2, 4), "withdrawn", 4),
            (Withdrawn("saw", 3, 9, 5, 2, 0), "withdrawn", 0),
            (Withdrawn("saw", 3, 9, 5, 2, 5), "withdrawn", 5),
        ]:
            self.check_fields(entry)
            self.assertEqual((entry.word(), entry.left()), (word, left))
            self.assertEqual(entry.told(), (word, 3, 9, 5, 2, left))
            self.assertIs(entry.told().__class__, tuple)

    def test_the_kinds_stand_straight_under_entry(self):
        self.assertEqual(Entry.__bases__, (object,))
        for kind in [Standing, Finished, Withdrawn]:
            self.assertEqual(kind.__bases__, (Entry,))

    def test_each_object_tells_its_own(self):
        one, other = Standing("saw", 3, 9, 5, 2), Standing("mill", 0, 7, 60, 16)
        self.assertEqual((one.told(), other.told()), (("standing", 3, 9, 5, 2, 5), ("standing", 0, 7, 60, 16, 60)))
        self.assertEqual((one.name, other.name), ("saw", "mill"))


if __name__ == "__main__":
    unittest.main()
