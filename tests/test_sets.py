"""[1.1] to [1.6]: texts of sets, their errors and edges."""

import unittest
from math import factorial

from mailtide.errors import BadNumber, BadRow, BadSet, BadValue
from mailtide.folders import Folder
from mailtide.sets import count_shortest, meant, parting, plain_set, shortest
from tests.wrong import objects, raised

TOP = 10 ** 30 - 1

GOOD_TEXTS = ["*", "1", "9", "10", "*:*", "1:*", "*:1", "5:5", "9:2", "1,1", "*,*", "1,2:3,*:4", "9" * 30, "1" + "0" * 29]

BAD_TEXTS = [
    "", ",", ":", "0", "01", "1,", ",1", "1,,2", "1:", ":1", "1::2", "1:2:3", "*:*:*", "**", "1*", "*1", " 1", "1 ", "1, 2",
    "1 :2", "-1", "+1", "1.0", "1_0", "a", "x:1", "1;2", "0:5", "5:0", "00", "1\n", "\n", "1\t", "0x1", "1e5", "10" + "0" * 29,
    "9" * 31, "1:" + "9" * 31, "*,0", "\u0661", "\u00b2", "\uff11", "1:\u0662", "1\x00", "#", "$",
]


class Meant(unittest.TestCase):

    def test_one_end(self):
        self.assertEqual(meant("5", (2, 5, 9)), [5])
        self.assertEqual(meant("4", (2, 5, 9)), [])
        self.assertEqual(meant("*", (2, 5, 9)), [9])
        self.assertEqual(meant("*", (2,)), [2])

    def test_two_ends_in_both_directions(self):
        for text in ("2:5", "5:2", "1:8", "8:1", "2:8", "5:1"):
            self.assertEqual(meant(text, (2, 5, 9)), [2, 5], text)
        self.assertEqual(meant("3:4", (2, 5, 9)), [])
        self.assertEqual(meant("5:5", (2, 5, 9)), [5])

    def test_star_as_an_end(self):
        for text in ("5:*", "*:5", "3:*", "*:3"):
            self.assertEqual(meant(text, (2, 5, 9)), [5, 9], text)
        for text in ("*:*", "9:*", "10:*", "*:99", "*"):
            self.assertEqual(meant(text, (2, 5, 9)), [9], text)

    def test_several_items(self):
        self.assertEqual(meant("9,2", (2, 5, 9)), [2, 9])
        self.assertEqual(meant("9,2,9,9:8", (2, 5, 9)), [2, 9])
        self.assertEqual(meant("1:5,4:9,7", (2, 5, 7, 9, 11)), [2, 5, 7, 9])
        self.assertEqual(meant("3,4,12", (2, 5, 7, 9, 11)), [])
        self.assertEqual(meant("1,3:9,4:5", range_of(1, 10)), [1, 3, 4, 5, 6, 7, 8, 9])
        self.assertEqual(meant("8:3,1,4:5,7:12", range_of(1, 13)), [1, *range(3, 13)])
        self.assertEqual(meant("*,1:3", (2, 5, 7)), [2, 7])

    def test_nothing_there(self):
        for text in GOOD_TEXTS:
            self.assertEqual(meant(text, ()), [], text)
            self.assertEqual(meant(text, []), [], text)

    def test_great_numbers(self):
        self.assertEqual(meant("9" * 30, (1, TOP)), [TOP])
        self.assertEqual(meant(f"1{'0' * 29}:{'9' * 30}", (10 ** 29 - 1, 10 ** 29, TOP)), [10 ** 29, TOP])

    def test_two_hundred_and_many_items(self):
        there = list(range(3, 603, 3))
        self.assertEqual(meant("1:*", there), there)
        self.assertEqual(meant(",".join(map(str, range(1, 700))), there), there)
        self.assertEqual(meant(",".join(map(str, range(1, 700, 6))), there), [])

    def test_list_is_new_and_arguments_stay(self):
        there = [2, 5, 9]
        found = meant("1:*", there)
        found.append(7)
        self.assertEqual(there, [2, 5, 9])
        self.assertEqual(meant("1:*", there), [2, 5, 9])


class Shortest(unittest.TestCase):

    def test_no_numbers(self):
        self.assertEqual(shortest((), ()), "*")
        self.assertEqual(shortest([], []), "*")
        self.assertEqual(shortest((), (1,)), "2")
        self.assertEqual(shortest((), (2, 3)), "1")
        self.assertEqual(shortest((), (1, 2, 4)), "3")
        self.assertEqual(shortest((), range_of(1, 9)), "10")
        self.assertEqual(shortest((), range_of(1, 99)), "100")
        self.assertEqual(shortest((), range_of(1, 200)), "201")

    def test_count_of_no_numbers(self):
        self.assertEqual(count_shortest((), ()), 10)
        self.assertEqual(count_shortest((), (1,)), 8)
        self.assertEqual(count_shortest((), (10, 11)), 9)
        self.assertEqual(count_shortest((), range_of(1, 8)), 1)
        self.assertEqual(count_shortest((), range_of(1, 9)), 90)
        self.assertEqual(count_shortest((), range_of(1, 9) + (20, 200)), 89)
        self.assertEqual(count_shortest((), range_of(1, 99)), 900)
        self.assertEqual(count_shortest((), range_of(1, 200)), 799)

    def test_one_number(self):
        self.assertEqual(shortest((5,), (5,)), "*")
        self.assertEqual(count_shortest((5,), (5,)), 2)
        self.assertEqual(shortest((10,), (10,)), "*")
        self.assertEqual(count_shortest((10,), (10,)), 1)
        self.assertEqual(count_shortest((9,), (9,)), 2)
        self.assertEqual(shortest((9,), (9,)), "*")
        self.assertEqual(shortest((5,), (5, 6)), "5")
        self.assertEqual(count_shortest((5,), (5, 6)), 1)
        self.assertEqual(shortest((500,), (5, 500, 6000)), "500")
        self.assertEqual(shortest((TOP,), (TOP,)), "*")
        self.assertEqual(shortest((10 ** 29,), (10 ** 29, TOP)), "1" + "0" * 29)

    def test_rows_of_neighbours_at_both_ends(self):
        there = (3, 4, 5, 20, 30, 31, 32)
        self.assertEqual(shortest((3, 4, 5), there), "1:5")
        self.assertEqual(shortest((30, 31, 32), there), "*:21")
        self.assertEqual(shortest((3, 4, 5, 30, 31, 32), there), "*:21,1:5")
        self.assertEqual(shortest(there, there), "*:1")
        self.assertEqual(shortest((20,), there), "20")
        self.assertEqual(shortest((3, 4, 5, 20), there), "1:20")
        self.assertEqual(shortest((5, 20, 30), there), "30:5")

    def test_count_of_ends(self):
        self.assertEqual(count_shortest((6, 7, 8), (6, 7, 8)), 2 * 6 * 3)
        self.assertEqual(count_shortest((7, 8, 9), (7, 8, 9)), 2 * 7 * 2)
        self.assertEqual(count_shortest((9, 10, 11), (9, 10, 11)), 2 * 9)
        self.assertEqual(count_shortest((3, 4, 5), (3, 4, 5, 8)), 2 * 3 * 3)
        self.assertEqual(count_shortest((3, 4, 5), (3, 4, 5, 80)), 2 * 3 * 5)
        self.assertEqual(count_shortest((6, 8), (5, 6, 8)), 2 * 2 + 2 * 3)
        self.assertEqual(count_shortest((6, 9), (5, 6, 9)), 2 * 2 + 2 * 2)
        self.assertEqual(count_shortest((6, 10), (5, 6, 10)), 2 + 2)

    def test_lesser_end_goes_down_to_fewer_figures(self):
        self.assertEqual(shortest((10, 11), (5, 10, 11, 12)), "11:6")
        self.assertEqual(shortest((10, 11), (8, 10, 11, 12)), "11:9")
        self.assertEqual(shortest((10, 11), (9, 10, 11, 12)), "10,11")
        self.assertEqual(shortest((100, 101), (98, 100, 101, 200)), "101:99")
        self.assertEqual(shortest((1000, 1001), (1, 1000, 1001, 2000)), "1001:2")
        self.assertEqual(shortest((99, 100, 101), (99, 100, 101, 102)), "101:1")

    def test_greater_end_stays_at_the_last_number(self):
        self.assertEqual(shortest((9, 10), (9, 10, 100)), "10,9")
        self.assertEqual(shortest((8, 9, 10), (8, 9, 10, 100)), "10:1")
        self.assertEqual(shortest((98, 99), (97, 98, 99, 150)), "98,99")

    def test_two_neighbours_are_two_items_or_one(self):
        self.assertEqual(shortest((2, 3), (1, 2, 3, 4)), "2,3")
        self.assertEqual(shortest((3, 4), (1, 3, 4, 5)), "2:4")
        self.assertEqual(shortest((3, 4), (3, 4)), "*,3")
        self.assertEqual(shortest((5, 6), (5, 6, 7, 20)), "1:6")
        self.assertEqual(shortest((7, 10), (5, 7, 10, 20)), "10,7")

    def test_order_of_items(self):
        there = (1, 3, 5, 10, 12, 50, 100)
        self.assertEqual(shortest((1, 5, 12), there), "1,12,5")
        self.assertEqual(shortest((1, 5, 12, 100), there), "*,1,12,5")
        self.assertEqual(shortest((1, 5, 10, 50), there), "1,10,5,50")

    def test_more_items(self):
        self.assertEqual(count_shortest((1, 3), (1, 2, 3, 4)), 2)
        self.assertEqual(count_shortest((1, 3, 5), (1, 2, 3, 4, 5)), 12)
        there = range_of(1, 200)
        self.assertEqual(count_shortest(there[::2], there), factorial(100))
        self.assertEqual(shortest(there[1::2], there), ",".join(sorted(["*"] + [str(k) for k in range(2, 200, 2)])))

    def test_numbers_of_thirty_figures(self):
        there = (10 ** 29 - 2, TOP - 4, TOP - 3, TOP - 2, TOP)
        self.assertEqual(shortest(there[1:4], there), f"{TOP - 2}:{'9' * 29}")
        self.assertEqual(count_shortest(there[1:4], there), 4)
        self.assertEqual(shortest(there[1:], there), "*:" + "9" * 29)
        self.assertEqual(count_shortest(there[1:], there), 2)
        self.assertEqual(shortest(there[:3], there), f"1:{TOP - 3}")
        self.assertEqual(count_shortest(there[:3], there), 2 * 9)
        self.assertEqual(count_shortest((10 ** 29, 2 * 10 ** 29), (10 ** 29, 2 * 10 ** 29, TOP)), 18 * (8 * 10 ** 29 - 1))

    def test_means_just_these(self):
        for mask in range(0, 1 << 11, 5):
            there = (1, 2, 9, 10, 11, 12, 99, 100, 1000, 1001, TOP)
            some = [number for place, number in enumerate(there) if mask >> place & 1]
            self.assertEqual(meant(shortest(some, there), there), some)


class PlainSet(unittest.TestCase):

    def test_rows_of_numbers(self):
        self.assertEqual(plain_set((1,)), "1")
        self.assertEqual(plain_set([1, 2]), "1,2")
        self.assertEqual(plain_set((1, 2, 3)), "1:3")
        self.assertEqual(plain_set((1, 3)), "1,3")
        self.assertEqual(plain_set((9, 10)), "10,9")
        self.assertEqual(plain_set((9, 10, 11)), "11:9")
        self.assertEqual(plain_set((1, 2, 3, 4, 5, 6, 7, 8, 9, 10)), "10:1")
        self.assertEqual(plain_set((98, 99, 100, 102)), "100:98,102")
        self.assertEqual(plain_set((TOP - 2, TOP - 1, TOP)), f"{TOP - 2}:{TOP}")

    def test_others_never_matter(self):
        some = (3, 7, 8, 9, 20, 21)
        text = plain_set(some)
        self.assertNotIn("*", text)
        for others in ((), (1, 2, 4), range(1, 30), (TOP,), (10, 19, 22)):
            there = sorted({*some, *others})
            self.assertEqual(meant(text, there), list(some))

    def test_two_hundred(self):
        self.assertEqual(plain_set(range_of(1, 200)), "1:200")
        self.assertEqual(plain_set(range_of(10, 408)[::2]), ",".join(sorted(map(str, range(10, 409, 2)))))


class Parting(unittest.TestCase):

    def test_alike(self):
        pairs = [
            ("1", "1"), ("1,2", "2:1"), ("1:3,4:5", "5:1"), ("*", "*:*"), ("*,*", "*"), ("5:*,*", "*:5"), ("5:*,7", "5:*"),
            ("1:*", "1:" + "9" * 30), ("*,1:" + "9" * 30, "9" * 30 + ":1"), ("*," + "9" * 30, "*"),
            ("9" * 30 + ":*", "*"), ("5:*", "*,5:" + "9" * 30), ("5:*", "*,5:" + "9" * 29 + "8"),
        ]
        for one, other in pairs:
            self.assertIsNone(parting(one, other), (one, other))
            self.assertIsNone(parting(other, one), (one, other))

    def test_one_number(self):
        tests = [
            ("1", "2", (1,)), ("2:5", "2:6", (6,)), ("2:5", "3:5", (2,)), ("4", "4,9,8", (8,)), ("*", "1", (2,)),
            ("*", "2", (1,)), ("1:*", "1:99", (100,)), ("1:4,6:*", "1:4,6:9", (5,)), ("5", "*", (1,)),
            ("1:3,5:7", "1:7", (4,)), ("*", "1:" + "9" * 29, (10 ** 29,)), ("*", "1:" + "9" * 29 + "8", (TOP,)),
        ]
        for one, other, numbers in tests:
            self.assertEqual(parting(one, other), numbers, (one, other))
            self.assertEqual(parting(other, one), numbers, (one, other))

    def test_two_numbers(self):
        tests = [
            ("*", "*:1", (1, 2)), ("*", "5:*", (5, 6)), ("*,4", "*", (4, 5)), ("7:*", "5:*", (5, 6)), ("*,1:3", "*,1:4", (4, 5)),
            ("*,2", "1:*", (1, 2)), ("*", f"*,{TOP - 1}", (TOP - 1, TOP)), ("3:*", "*:3,*,2", (2, 3)),
        ]
        for one, other, numbers in tests:
            self.assertEqual(parting(one, other), numbers, (one, other))
            self.assertEqual(parting(other, one), numbers, (one, other))
            self.assertNotEqual(meant(one, numbers), meant(other, numbers))


class SetErrors(unittest.TestCase):

    def test_good_texts(self):
        for text in GOOD_TEXTS:
            meant(text, (1, 2))
            parting(text, text)

    def test_bad_texts(self):
        for text in BAD_TEXTS:
            self.assertEqual(raised(meant, text, (1,)), ("BadSet", text))
            self.assertEqual(raised(parting, text, "1"), ("BadSet", text))
            self.assertEqual(raised(parting, "1", text), ("BadSet", text))

    def test_texts_that_are_no_strings(self):
        for value in objects():
            if not isinstance(value, str):
                with self.assertRaises(BadSet) as caught:
                    meant(value, (1,))
                self.assertIs(caught.exception.value, value)
                with self.assertRaises(BadSet) as caught:
                    parting("1", value)
                self.assertIs(caught.exception.value, value)

    def test_rows_that_are_no_lists(self):
        for value in objects() + ["1", {1: 1}, {1, 2}, range(1, 3)]:
            if not isinstance(value, (list, tuple)):
                for call in (shortest, count_shortest):
                    self.assertEqual(raised(call, value, (1,)), ("BadRow", -1))
                    self.assertEqual(raised(call, (), value), ("BadRow", -1))
                self.assertEqual(raised(meant, "1", value), ("BadRow", -1))
                self.assertEqual(raised(plain_set, value), ("BadRow", -1))

    def test_items_that_are_no_numbers(self):
        for value in objects():
            if type(value) is not int or not 1 <= value <= TOP:
                self.check_row_error([value], 0)
                self.check_row_error((7, 8, value, 9), 2)

    def test_order_and_limits_of_rows(self):
        self.check_row_error([True], 0)
        self.check_row_error([1, 2, False], 2)
        self.check_row_error((0, 1), 0)
        self.check_row_error((-3, 1), 0)
        self.check_row_error((1, 1), 1)
        self.check_row_error((1, 5, 4, 3), 2)
        self.check_row_error((TOP, TOP + 1), 1)
        self.check_row_error((TOP + 1,), 0)
        self.check_row_error([1, "2", None], 1)

    def test_rows_of_more_than_two_hundred(self):
        self.assertEqual(meant("200", range_of(1, 200)), [200])
        self.check_row_error(range_of(1, 201), 200)
        self.check_row_error(range_of(1, 500), 200)
        self.check_row_error(range_of(1, 200) + (None,), 200)
        self.check_row_error(range_of(1, 200) + (5,), 200)
        self.check_row_error(range_of(1, 199) + (5, 300), 199)
        self.check_row_error((1, 1) + range_of(2, 300), 1)
        self.check_row_error(range_of(1, 210) + (True,), 200)

    def test_some_that_are_not_there(self):
        for call in (shortest, count_shortest):
            self.assertEqual(raised(call, (3,), (1, 2)), ("BadNumber", 3))
            self.assertEqual(raised(call, (1, 3, 4), (1, 2)), ("BadNumber", 3))
            self.assertEqual(raised(call, (1,), ()), ("BadNumber", 1))
            self.assertEqual(raised(call, [1, TOP], [1]), ("BadNumber", TOP))

    def test_empty(self):
        self.assertEqual(raised(plain_set, ()), ("BadValue", "empty"))
        self.assertEqual(raised(plain_set, []), ("BadValue", "empty"))
        self.assertEqual(raised(plain_set, {}), ("BadRow", -1))

    def test_first_wrong_argument_decides(self):
        self.assertEqual(raised(meant, "0", None), ("BadSet", "0"))
        self.assertEqual(raised(meant, None, [2, 1]), ("BadSet", None))
        self.assertEqual(raised(parting, "", "0"), ("BadSet", ""))
        self.assertEqual(raised(parting, [], "0"), ("BadSet", []))
        for call in (shortest, count_shortest):
            self.assertEqual(raised(call, None, (1, 1)), ("BadRow", -1))
            self.assertEqual(raised(call, (1, 2, 2), None), ("BadRow", 2))
            self.assertEqual(raised(call, (9, 8), (1, 2, 3, 3)), ("BadRow", 1))
            self.assertEqual(raised(call, (9,), (1, 2, 3, 3)), ("BadRow", 3))
            self.assertEqual(raised(call, (9,), {}), ("BadRow", -1))
            self.assertEqual(raised(call, (9,), range_of(1, 201)), ("BadRow", 200))

    def test_classes_of_errors(self):
        self.assertRaises(BadSet, meant, "", ())
        self.assertRaises(BadRow, meant, "1", Folder(1))
        self.assertRaises(BadNumber, shortest, (1,), ())
        self.assertRaises(BadValue, plain_set, ())

    def test_arguments_stay(self):
        some, there = [2, 3], [1, 2, 3, 5]
        shortest(some, there), count_shortest(some, there), plain_set(some), meant("1:*", there)
        self.assertEqual((some, there), ([2, 3], [1, 2, 3, 5]))

    def check_row_error(self, row, at):
        for call in (shortest, count_shortest):
            self.assertEqual(raised(call, row, (1,)), ("BadRow", at))
            self.assertEqual(raised(call, (), row), ("BadRow", at))
        self.assertEqual(raised(meant, "1", row), ("BadRow", at))
        self.assertEqual(raised(plain_set, row), ("BadRow", at))


def range_of(first, last):
    return tuple(range(first, last + 1))


if __name__ == "__main__":
    unittest.main()
