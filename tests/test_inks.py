"""Points 6 and 7: tables, the darkness at an age, the ages of a reading, reigns."""

import itertools
import unittest

from inkyears.inks import ages_of, darkness_at, is_reign, is_table, reign_year

MOST = 10 ** 6
FALLING = [90, 70, 70, 40, 10]
TABLES = [
    [5], [0], [MOST], [MOST, 0], [3, 3, 3], [9, 8, 7, 6, 5, 4, 3, 2, 1, 0],
    FALLING, [MOST, MOST, 500, 500, 0, 0], list(range(60, 0, -1)), [7] * 60,
]


def ages_one_by_one(table, dark, error, greatest):
    ages = []
    for age in range(greatest + 1):
        darkness = table[age] if age < len(table) else table[-1]
        if -error <= darkness - dark <= error:
            ages.append(age)
    return ages


def told_one_by_one(table, dark, error, greatest):
    ages = ages_one_by_one(table, dark, error, greatest)
    return (ages[0], ages[-1]) if ages else None


class TableTest(unittest.TestCase):
    def test_tables(self):
        for table in TABLES + [[MOST] * 60, [0] * 60, list(range(MOST, MOST - 60, -1))]:
            with self.subTest(table=table):
                self.assertIs(is_table(table), True)

    def test_lengths(self):
        for length in range(70):
            self.assertIs(is_table([8] * length), 1 <= length <= 60)
            self.assertIs(is_table(list(range(length, 0, -1))), 1 <= length <= 60)

    def test_bounds_of_the_numbers(self):
        for table in [[-1], [0, -1], [5, 4, -3], [MOST + 1], [MOST + 1, MOST], [10 ** 29], [-10 ** 29], [0] * 59 + [-1]]:
            with self.subTest(table=table):
                self.assertIs(is_table(table), False)

    def test_none_rises(self):
        for table in [[0, 1], [5, 6], [5, 5, 6], [9, 3, 4], [9, 8, 7, 7, 8], [1, 2, 1], [4] * 59 + [5], [0, MOST]]:
            with self.subTest(table=table):
                self.assertIs(is_table(table), False)

    def test_all_small_lists(self):
        for length in range(5):
            for some in itertools.product([-1, 0, 1, MOST, MOST + 1], repeat=length):
                good = length > 0 and all(0 <= dark <= MOST for dark in some) and list(some) == sorted(some, reverse=True)
                self.assertIs(is_table(list(some)), good, some)

    def test_truths_are_no_whole_numbers(self):
        for table in [[True], [False], [True, False], [2, True], [1, False], [1, 0, False]]:
            self.assertIs(is_table(table), False)

    def test_the_list_stays(self):
        for some in [[], [3, 2, 1], [1, 2, 3], [-1], [4] * 61]:
            before = list(some)
            is_table(some)
            self.assertEqual(some, before)


class DarknessTest(unittest.TestCase):
    def test_at_each_age_of_the_table(self):
        for table in TABLES:
            for age, dark in enumerate(table):
                self.assertEqual(darkness_at(table, age), dark)

    def test_first_and_last(self):
        self.assertEqual(darkness_at(FALLING, 0), 90)
        self.assertEqual(darkness_at(FALLING, 4), 10)

    def test_beyond_the_last(self):
        for table in TABLES:
            for more in [0, 1, 2, 59, 300, 10 ** 29]:
                self.assertEqual(darkness_at(table, len(table) + more), table[-1])

    def test_table_of_one_number(self):
        for age in [0, 1, 2, 300]:
            self.assertEqual(darkness_at([5], age), 5)

    def test_nothing_is_refused_for_an_age_below_nought(self):
        for age in [-1, -2, -7]:
            self.assertEqual(darkness_at(FALLING, age), 90)
            self.assertEqual(darkness_at([5], age), 5)

    def test_the_table_stays(self):
        table = list(FALLING)
        for age in [0, 2, 4, 5, 100]:
            darkness_at(table, age)
        self.assertEqual(table, FALLING)


class AgesTest(unittest.TestCase):
    def test_one_age(self):
        self.assertEqual(ages_of(FALLING, 90, 0, 100), (0, 0))
        self.assertEqual(ages_of(FALLING, 40, 0, 100), (3, 3))

    def test_several_ages(self):
        self.assertEqual(ages_of(FALLING, 70, 0, 100), (1, 2))
        self.assertEqual(ages_of(FALLING, 55, 15, 100), (1, 3))
        self.assertEqual(ages_of(FALLING, 80, 10, 100), (0, 2))

    def test_the_error_to_the_last_sign(self):
        self.assertEqual(ages_of(FALLING, 60, 10, 100), (1, 2))
        self.assertIsNone(ages_of(FALLING, 60, 9, 100))
        self.assertEqual(ages_of(FALLING, 80, 10, 1), (0, 1))
        self.assertIsNone(ages_of(FALLING, 80, 9, 1))

    def test_all_ages(self):
        self.assertEqual(ages_of(FALLING, 50, 40, 100), (0, 100))
        self.assertEqual(ages_of([5], 5, 0, 300), (0, 300))
        self.assertEqual(ages_of([MOST, 0], 0, MOST, 7), (0, 7))
        self.assertEqual(ages_of([MOST, 0], MOST, MOST, 7), (0, 7))

    def test_no_age(self):
        self.assertIsNone(ages_of(FALLING, 91, 0, 100))
        self.assertIsNone(ages_of(FALLING, 9, 0, 100))
        self.assertIsNone(ages_of(FALLING, 50, 5, 100))
        self.assertIsNone(ages_of([MOST], 0, MOST - 1, 100))

    def test_no_age_soon_enough(self):
        self.assertIsNone(ages_of(FALLING, 40, 0, 2))
        self.assertEqual(ages_of(FALLING, 40, 0, 3), (3, 3))
        self.assertEqual(ages_of(FALLING, 70, 0, 1), (1, 1))

    def test_beyond_the_end_of_the_table(self):
        self.assertEqual(ages_of(FALLING, 10, 0, 3), None)
        self.assertEqual(ages_of(FALLING, 10, 0, 4), (4, 4))
        self.assertEqual(ages_of(FALLING, 10, 0, 5), (4, 5))
        self.assertEqual(ages_of(FALLING, 10, 0, 300), (4, 300))
        self.assertEqual(ages_of(FALLING, 25, 15, 300), (3, 300))

    def test_greatest_age_of_nought(self):
        self.assertEqual(ages_of(FALLING, 90, 0, 0), (0, 0))
        self.assertEqual(ages_of(FALLING, 95, 5, 0), (0, 0))
        self.assertIsNone(ages_of(FALLING, 70, 0, 0))
        self.assertEqual(ages_of([5], 5, 0, 0), (0, 0))
        self.assertIsNone(ages_of([5], 6, 0, 0))

    def test_a_great_greatest_age(self):
        self.assertEqual(ages_of(FALLING, 10, 0, 10 ** 29), (4, 10 ** 29))
        self.assertEqual(ages_of(FALLING, 70, 0, 10 ** 29), (1, 2))

    def test_readings_somewhat_beyond_their_bounds(self):
        self.assertEqual(ages_of(FALLING, -5, 15, 9), (4, 9))
        self.assertEqual(ages_of([MOST], MOST + 1, 1, 9), (0, 9))
        self.assertEqual(ages_of(FALLING, 50, MOST + 1, 9), (0, 9))
        self.assertIsNone(ages_of(FALLING, 70, -1, 9))
        self.assertIsNone(ages_of(FALLING, 70, 0, -1))

    def test_against_going_through_the_ages(self):
        for table in TABLES:
            near = {dark + more for dark in table for more in [-1, 0, 1]}
            darks = sorted(dark for dark in near | {0, 50, 250, MOST} if 0 <= dark <= MOST)
            for dark, error, greatest in itertools.product(darks, [0, 1, 2, 30, 500, MOST], [0, 1, 3, 5, 58, 61, 70]):
                told = ages_of(table, dark, error, greatest)
                self.assertEqual(told, told_one_by_one(table, dark, error, greatest), (table, dark, error, greatest))

    def test_all_small_tables(self):
        for length in [1, 2, 3, 4]:
            for falling in itertools.combinations_with_replacement([4, 3, 2, 1, 0], length):
                for dark, error, greatest in itertools.product(range(6), range(3), range(6)):
                    table = list(falling)
                    told = ages_of(table, dark, error, greatest)
                    self.assertEqual(told, told_one_by_one(table, dark, error, greatest), (table, dark, error, greatest))

    def test_the_ages_are_all_from_the_least_to_the_greatest(self):
        for table in TABLES:
            for dark, error, greatest in itertools.product([0, 5, 40, 500, MOST], [0, 2, 40, MOST], [0, 4, 63]):
                told = ages_of(table, dark, error, greatest)
                ages = [] if told is None else list(range(told[0], told[1] + 1))
                self.assertEqual(ages, ages_one_by_one(table, dark, error, greatest))

    def test_what_is_told_is_a_tuple_of_two(self):
        told = ages_of(FALLING, 70, 0, 100)
        self.assertIs(type(told), tuple)
        self.assertEqual([type(age) for age in told], [int, int])

    def test_the_table_stays(self):
        table = list(FALLING)
        for dark, error, greatest in itertools.product([0, 10, 70, 90], [0, 10, MOST], [0, 3, 300]):
            ages_of(table, dark, error, greatest)
        self.assertEqual(table, FALLING)

    def test_a_later_change_of_the_table_changes_nothing_told(self):
        table = list(FALLING)
        told = ages_of(table, 70, 0, 100)
        table.clear()
        self.assertEqual(told, (1, 2))


class ReignTest(unittest.TestCase):
    def test_bounds_of_the_begin(self):
        for begin in [-4000, -3999, -1, 0, 1, 1066, 3999, 4000]:
            self.assertIs(is_reign(begin, 10), True)
        for begin in [-4001, 4001, -10 ** 29, 10 ** 29]:
            self.assertIs(is_reign(begin, 10), False)

    def test_bounds_of_the_length(self):
        for length in [1, 2, 50, 99, 100]:
            self.assertIs(is_reign(1500, length), True)
        for length in [0, -1, -100, 101, 10 ** 29]:
            self.assertIs(is_reign(1500, length), False)

    def test_bounds_of_both(self):
        for begin, length in itertools.product([-4001, -4000, 0, 4000, 4001], [0, 1, 100, 101]):
            good = -4000 <= begin <= 4000 and 1 <= length <= 100
            self.assertIs(is_reign(begin, length), good, (begin, length))

    def test_truths_are_no_whole_numbers(self):
        self.assertIs(is_reign(0, True), False)
        self.assertIs(is_reign(False, 1), False)

    def test_first_and_last_year(self):
        self.assertEqual(reign_year(1500, 7, 1), 1500)
        self.assertEqual(reign_year(1500, 7, 7), 1506)
        self.assertEqual(reign_year(-3, 5, 4), 0)
        self.assertEqual(reign_year(-4000, 100, 100), -3901)
        self.assertEqual(reign_year(4000, 100, 100), 4099)

    def test_reign_of_one_year(self):
        self.assertIsNone(reign_year(1500, 1, 0))
        self.assertEqual(reign_year(1500, 1, 1), 1500)
        self.assertIsNone(reign_year(1500, 1, 2))

    def test_no_such_year(self):
        for k in [0, -1, -7, 8, 9, 101, 4000, 10 ** 29, -10 ** 29]:
            self.assertIsNone(reign_year(1500, 7, k))

    def test_each_year_of_each_length(self):
        for begin, length in itertools.product([-4000, -50, 0, 1812, 4000], [1, 2, 99, 100]):
            years = [reign_year(begin, length, k) for k in range(-2, length + 4)]
            self.assertEqual(years, [None] * 3 + list(range(begin, begin + length)) + [None] * 3)

    def test_reigns_somewhat_beyond_their_bounds(self):
        self.assertEqual(reign_year(4001, 101, 101), 4101)
        self.assertEqual(reign_year(-4001, 3, 1), -4001)
        self.assertIsNone(reign_year(1500, 0, 1))


if __name__ == "__main__":
    unittest.main()
