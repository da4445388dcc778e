import unittest
from random import Random

from knotwise.polys import LOOP, added, poly_text, raised, shifted, times, turned
from samples import assert_own

LONG = 10 ** 60 - 1
SAMPLES = [{}, {0: 1}, {0: -1}, {2: -1, -2: -1}, {-500: 1, 500: -1}, {3: LONG, -7: -LONG}, {1: 1, 0: 1}, {1: 1, 0: -1},
           {-4: 2, -3: 5, 0: -7, 9: 1}, dict(zip(range(-30, 30), range(1, 61)))]


def value(one, at):
    """What the polynomial comes to for A = at, times at ** 7000, which is a whole number."""
    return sum(number * at ** (7000 + power) for power, number in one.items())


class PolynomialsTest(unittest.TestCase):
    def same(self, told, expected):
        self.assertEqual(told, expected)
        self.assertNotIn(0, told.values())
        self.assertIs(type(told), dict)

    def test_added(self):
        self.same(added({}, {}), {})
        self.same(added({}, {3: 4}), {3: 4})
        self.same(added({3: 4}, {}), {3: 4})
        self.same(added({3: 4, -1: 2}, {3: 1, 0: 5}), {3: 5, -1: 2, 0: 5})
        self.same(added({0: LONG}, {0: 1}), {0: 10 ** 60})

    def test_powers_vanish_in_sums(self):
        self.same(added({3: 4}, {3: -4}), {})
        self.same(added({3: 4, -2: 1}, {3: -4, 5: 1}), {-2: 1, 5: 1})
        self.same(added({3: LONG, 1: 1}, {3: -LONG, 1: -2}), {1: -1})

    def test_times(self):
        self.same(times({}, {}), {})
        self.same(times({}, {3: 4}), {})
        self.same(times({3: 4}, {}), {})
        self.same(times({0: 1}, {3: 4, -3: 1}), {3: 4, -3: 1})
        self.same(times({-3: 2}, {3: 4, -3: 1}), {0: 8, -6: 2})
        self.same(times(LOOP, LOOP), {4: 1, 0: 2, -4: 1})
        self.same(times({500: LONG}, {-500: -LONG}), {0: -LONG * LONG})

    def test_powers_vanish_in_products(self):
        self.same(times({1: 1, 0: 1}, {1: 1, 0: -1}), {2: 1, 0: -1})
        self.same(times({2: 1, 1: 1, 0: 1}, {1: 1, 0: -1}), {3: 1, 0: -1})
        self.same(times({2: 1, 0: -1, -2: 1}, {2: 1, -2: 1, 0: 1}), {4: 1, 0: 1, -4: 1})

    def test_shifted(self):
        self.same(shifted({3: 4, -1: 2}, 5, -3), {8: -12, 4: -6})
        self.same(shifted({3: 4, -1: 2}, 0, 1), {3: 4, -1: 2})
        self.same(shifted({3: 4}, -500, LONG), {-497: 4 * LONG})
        self.same(shifted({-500: 1, 500: 1}, 500, 1), {0: 1, 1000: 1})
        self.same(shifted({}, 7, 3), {})

    def test_shifted_with_the_factor_0(self):
        for one in SAMPLES:
            self.same(shifted(one, 3, 0), {})
            self.same(shifted(one, 0, 0), {})

    def test_turned(self):
        self.same(turned({3: 4, -1: 2, 0: 7}), {-3: 4, 1: 2, 0: 7})
        self.same(turned({3: 4, -3: 2}), {-3: 4, 3: 2})
        self.same(turned({}), {})
        self.same(turned(LOOP), LOOP)
        self.same(turned({500: -LONG}), {-500: -LONG})

    def test_raised(self):
        self.same(raised(LOOP, 0), {0: 1})
        self.same(raised({}, 0), {0: 1})
        self.same(raised({}, 3), {})
        self.same(raised(LOOP, 1), {2: -1, -2: -1})
        self.same(raised(LOOP, 3), {6: -1, 2: -3, -2: -3, -6: -1})
        self.same(raised({1: 1, 0: 1}, 12), dict(zip(range(13), (1, 12, 66, 220, 495, 792, 924, 792, 495, 220, 66,
                                                               12, 1))))
        self.same(raised({-500: -LONG}, 12), {-6000: LONG ** 12})
        self.same(raised({0: -1}, 11), {0: -1})
        four = {-2: 3, 0: -1, 5: 2, 1: 1}
        self.assertEqual(value(raised(four, 12), 3) * 3 ** (7000 * 11), value(four, 3) ** 12)

    def test_against_values(self):
        for one in SAMPLES[:-1]:
            for other in SAMPLES:
                for at in (2, -3):
                    self.assertEqual(value(added(one, other), at), value(one, at) + value(other, at))
                    self.assertEqual(value(times(one, other), at) * at ** 7000, value(one, at) * value(other, at))
                    self.same(added(one, other), added(other, one))
                    self.same(times(one, other), times(other, one))

    def test_by_chance(self):
        chance = Random(3)
        for turn in range(200):
            one, other, third = [{power: number for power, number in
                                  [(chance.randrange(-6, 7), chance.randrange(-2, 3)) for part in range(6)] if number}
                                 for poly in range(3)]
            self.same(times(one, added(other, third)), added(times(one, other), times(one, third)))
            self.same(added(one, shifted(one, 0, -1)), {})
            self.same(turned(times(one, other)), times(turned(one), turned(other)))
            self.same(raised(one, 4), times(times(one, one), times(one, one)))
            self.same(shifted(one, 3, -2), times(one, {3: -2}))

    def test_written(self):
        self.assertEqual(poly_text({}), "0")
        self.assertEqual(poly_text({0: 1}), "0:1")
        self.assertEqual(poly_text({0: -1}), "0:-1")
        self.assertEqual(poly_text(LOOP), "-2:-1 2:-1")
        self.assertEqual(poly_text({10: 3, 9: 12, -10: 1, -9: -4, 0: 5}), "-10:1 -9:-4 0:5 9:12 10:3")
        self.assertEqual(poly_text({-500: LONG, 500: -LONG}), "-500:" + "9" * 60 + " 500:-" + "9" * 60)

    def test_loop(self):
        self.assertEqual(LOOP, {2: -1, -2: -1})
        for told in (added(LOOP, {}), added({}, LOOP), times(LOOP, {0: 1}), shifted(LOOP, 0, 1), turned(LOOP),
                     raised(LOOP, 1), raised(LOOP, 0)):
            told[7] = 7
        self.assertEqual(LOOP, {2: -1, -2: -1})
        self.assertEqual(raised(LOOP, 0), {0: 1})

    def test_told_is_new(self):
        for one in SAMPLES:
            assert_own(self, turned, dict(one))
            assert_own(self, poly_text, dict(one))
            assert_own(self, shifted, dict(one), 0, 1)
            assert_own(self, shifted, dict(one), 5, -2)
            for other in SAMPLES:
                assert_own(self, added, dict(one), dict(other))
                assert_own(self, times, dict(one), dict(other))
        for count in (0, 1, 2, 12):
            for one in ({}, {0: 1}, {2: -1, -2: -1}):
                assert_own(self, raised, dict(one), count)

    def test_one_dict_for_both(self):
        for one in SAMPLES:
            before = dict(one)
            self.same(added(one, one), shifted(one, 0, 2))
            self.same(times(one, one), raised(before, 2))
            self.assertEqual(one, before)


if __name__ == "__main__":
    unittest.main()
