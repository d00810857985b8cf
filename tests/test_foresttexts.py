import copy
import unittest

from dialforest.errors import InvalidForest, InvalidText
from dialforest.foresttexts import format_forest, parse_forest
from tests.samples import F, G, MIXED, SINGLE
from tests.samples import chain, large_integers, no_integers, node_with, random_forests

LINE = "2 0 0 1 - 0 0"
CHILD = "12 0 0,11 1 0 0 0"


def with_field(line, place, text):
    """Return the line with one of its seven fields replaced."""
    fields = line.split(" ")
    fields[place] = text
    return " ".join(fields)


class Format(unittest.TestCase):
    def test_example(self):
        self.assertEqual(format_forest(G), "2 1 0 3 - 0 0\n3 1 0 5 0 2 1\n2 0 0 -1 0 1 1")

    def test_every_kind_of_field(self):
        lines = ["4 3 1,2 7 4 3 2", "5 0 0,4 -2 - 0 0", "2 1 0,1 0 4 1 0", "12 11 0,11 1000000000000 0 11 3",
                 "3 2 1 -1000000000000 - 0 0", "6 5 0,2,5 1 1 4 4"]
        self.assertEqual(format_forest(MIXED), "\n".join(lines))

    def test_a_single_node_has_no_newline(self):
        self.assertEqual(format_forest((SINGLE,)), LINE)

    def test_values_that_are_no_forests(self):
        for value in no_integers() + large_integers() + [(), [SINGLE], (SINGLE,) * 61]:
            with self.assertRaises(InvalidForest):
                format_forest(value)
        with self.assertRaises(InvalidForest) as context:
            format_forest((SINGLE, node_with(SINGLE, down=1)))
        self.assertEqual(context.exception.path, (1, "down"))

    def test_by_name(self):
        self.assertEqual(format_forest(forest=(SINGLE,)), LINE)

    def test_values_stay_as_they_were(self):
        value = [list(SINGLE)]
        before = copy.deepcopy(value)
        with self.assertRaises(InvalidForest):
            format_forest(value)
        self.assertEqual(value, before)


class ReadBack(unittest.TestCase):
    def test_forests_of_one_to_sixty_nodes(self):
        widest = node_with(SINGLE, size=12, shown=11, allowed=tuple(range(12)), weight=-10 ** 12)
        wide = (widest,) + tuple(node_with(widest, parent=k, down=11, up=11) for k in range(59))
        for forest in random_forests() + [G, F, MIXED, (SINGLE,), chain(60), (SINGLE,) * 60, wide]:
            found = parse_forest(format_forest(forest))
            self.assertEqual(found, forest)
            self.assertIs(type(found), tuple)

    def test_the_kinds_of_the_values(self):
        node = parse_forest(LINE + "\n" + CHILD)[1]
        self.assertEqual(node, (12, 0, (0, 11), 1, 0, 0, 0))
        self.assertEqual([type(item) for item in node], [int, int, tuple, int, int, int, int])
        self.assertIsNone(parse_forest(LINE)[0][4])

    def test_the_text_of_the_value_is_the_text(self):
        for text in (LINE, LINE + "\n" + CHILD, "\n".join([LINE] * 60), "12 11 0,11 -1000000000000 - 0 0"):
            self.assertEqual(format_forest(parse_forest(text)), text)

    def test_a_parent_may_come_later(self):
        text = "2 0 0 1 1 1 2\n3 0 0 1 - 0 0"
        self.assertEqual(parse_forest(text), ((2, 0, (0,), 1, 1, 1, 2), (3, 0, (0,), 1, None, 0, 0)))

    def test_by_name(self):
        self.assertEqual(parse_forest(text=LINE), (SINGLE,))


class Parse(unittest.TestCase):
    def assert_invalid(self, text, line):
        with self.assertRaises(InvalidText) as context:
            parse_forest(text)
        self.assertEqual(context.exception.line, line)
        self.assertIs(type(context.exception.line), int)


class WholeTexts(Parse):
    def test_example(self):
        self.assert_invalid("2 1 0 3 - 0 0\n2 1 0 3 7 0 0", 2)

    def test_values_that_are_no_strings(self):
        for value in no_integers() + large_integers() + [0, LINE.encode(), [LINE], (LINE,), G]:
            if not isinstance(value, str):
                self.assert_invalid(value, 0)

    def test_values_stay_as_they_were(self):
        value = [LINE, [LINE]]
        self.assert_invalid(value, 0)
        self.assertEqual(value, [LINE, [LINE]])

    def test_twenty_thousand_characters_are_read(self):
        lines = [LINE] * 1427 + ["2 0 0 1000000000 - 0 0"]
        text = "\n".join(lines)
        self.assertEqual(len(text), 20000)
        self.assert_invalid(text, 61)
        self.assert_invalid("\n" * 20000, 1)
        self.assert_invalid(LINE + "x" * (20000 - len(LINE)), 1)
        self.assert_invalid(LINE + "\n" + "1" * (19999 - len(LINE)), 2)

    def test_more_characters_are_not(self):
        text = "\n".join([LINE] * 1427 + ["2 0 0 10000000000 - 0 0"])
        self.assertEqual(len(text), 20001)
        self.assert_invalid(text, 0)
        self.assert_invalid("\n" * 20001, 0)
        self.assert_invalid("x" * 50000, 0)
        self.assert_invalid(" " * 20001, 0)

    def test_empty_text_and_newlines(self):
        self.assert_invalid("", 1)
        self.assert_invalid("\n", 1)
        self.assert_invalid("\n" + LINE, 1)
        self.assert_invalid(LINE + "\n", 2)
        self.assert_invalid(LINE + "\n\n" + LINE, 2)
        self.assert_invalid("\n".join([LINE] * 60) + "\n", 61)

    def test_the_smallest_wrong_line_counts(self):
        for k in (1, 2, 30, 60):
            lines = [LINE] * 60
            lines[k - 1] = "x"
            lines[59] = "x"
            self.assert_invalid("\n".join(lines), k)

    def test_a_field_outside_its_range_comes_before_later_errors(self):
        self.assert_invalid(with_field(LINE, 0, "13") + "\nx\n", 1)
        self.assert_invalid(LINE + "\n" + with_field(LINE, 3, "9" * 5000) + "\nx", 2)
        self.assert_invalid(with_field(LINE, 4, "3") + "\n" + LINE + "\nx", 1)


class TooManyLines(Parse):
    def test_sixty_one_lines(self):
        self.assert_invalid("\n".join([LINE] * 61), 61)
        self.assert_invalid("\n".join([LINE] * 100), 61)

    def test_a_wrong_line_behind_the_sixtieth_comes_first(self):
        for k in (61, 62, 80, 100):
            lines = [LINE] * 100
            lines[k - 1] = with_field(LINE, 5, "1")
            self.assert_invalid("\n".join(lines), k)

    def test_a_parent_behind_the_sixtieth_line_is_a_label(self):
        self.assert_invalid("\n".join([with_field(LINE, 4, "79")] + [LINE] * 79), 61)
        self.assert_invalid("\n".join([LINE, with_field(LINE, 4, "80")] + [LINE] * 78), 2)

    def test_loops_of_many_lines(self):
        lines = [LINE] * 61
        lines[0] = with_field(LINE, 4, "1")
        lines[1] = with_field(LINE, 4, "0")
        self.assert_invalid("\n".join(lines), 61)


class LinesThatDoNotFit(Parse):
    def test_loops(self):
        self.assert_invalid("2 0 0 1 1 0 0\n2 0 0 1 0 0 0", 3)
        self.assert_invalid(LINE + "\n2 0 0 1 2 0 0\n2 0 0 1 1 0 0", 4)

    def test_up_against_the_size_of_the_parent(self):
        self.assert_invalid(LINE + "\n2 0 0 1 0 0 2", 3)
        self.assert_invalid(LINE + "\n12 0 0 1 0 0 11\n" + LINE, 4)
        self.assertEqual(parse_forest(LINE + "\n2 0 0 1 0 0 1")[1][6], 1)

    def test_sixty_lines(self):
        self.assert_invalid("\n".join([with_field(LINE, 4, "1"), with_field(LINE, 4, "0")] + [LINE] * 58), 61)

    def test_a_wrong_line_comes_first(self):
        self.assert_invalid("2 0 0 1 1 0 0\n2 0 0 1 0 0 0\n2 0 0 1 - 0 1", 3)
        self.assert_invalid(LINE + "\n2 0 0 1 0 0 2\n2 0 0 1 0 0 12", 3)


class Fields(Parse):
    def check_field(self, place, good, bad):
        for text in good:
            with self.subTest(place=place, good=text):
                lines = LINE + "\n" + with_field(CHILD, place, text)
                self.assertEqual(format_forest(parse_forest(lines)), lines)
        for text in bad:
            with self.subTest(place=place, bad=text):
                self.assert_invalid(LINE + "\n" + with_field(CHILD, place, text), 2)

    def malformed(self, number):
        """Return texts that Python or a careless reader takes for the number, and other wrong texts."""
        return ["0" + number, "00" + number, "+" + number, "-0" + number, "--" + number, " " + number, number + " ",
                number + ".", number + ".0", number + ",", "," + number, number + "_0", "0x" + number, number + "e0",
                "(" + number + ")", number + "-", number + "L", "", "-", "+", "-0", "+0", "00", "None", "True",
                "x", "\t", "~", "- 1", "9" * 14, "9" * 4301, "9" * 19000, "-" + "9" * 19000, "0" * 19000,
                "1" + "0" * 19000]

    def test_size(self):
        text = "2 0 0 1 - 0 0\n12 0 0 1 - 0 0"
        self.assertEqual([node[0] for node in parse_forest(text)], [2, 12])
        for size in ["0", "1", "13", "-2", "20", "120"] + self.malformed("2"):
            self.assert_invalid(with_field(LINE, 0, size), 1)

    def test_shown(self):
        self.check_field(1, ["0", "1", "10", "11"], ["12", "-1", "100"] + self.malformed("5"))

    def test_allowed(self):
        good = ["0", "11", "0,11", "1,2,3", "0,1,2,3,4,5,6,7,8,9,10,11"]
        bad = ["12", "-1", "0,12", "-1,0", "1,0", "0,0", "0,1,1", "2,1,3", "0,,1", ",", "0,", ",0", "0,+1", "0,01",
               "-0,1", "0, 1", "0 1", "0;1", "0,x", "0.1", "(0)", "0,1,2,3,4,5,6,7,8,9,10,11,12", "0,-", "-,1"]
        self.check_field(2, good, bad + self.malformed("5"))
        self.check_field(2, [], [",".join(["0"] * 9000), "0," + "9" * 15000])

    def test_weight(self):
        good = ["0", "1", "-1", "10", "-10", "1000000000000", "-1000000000000", "999999999999"]
        bad = ["1000000000001", "-1000000000001", "9999999999999", "-9999999999999", "10000000000000",
               "-01", "-", "- 1", "01000000000000"]
        self.check_field(3, good, bad + self.malformed("5"))

    def test_parent(self):
        malformed = [text for text in self.malformed("0") if text != "-"]
        self.check_field(4, ["0"], ["1", "2", "-1", "60", "--", "-00", "None"] + malformed)
        self.assertEqual(parse_forest(LINE + "\n" + with_field(CHILD, 4, "-"))[1][4], None)

    def test_down(self):
        self.check_field(5, ["0", "1", "10", "11"], ["12", "-1", "100"] + self.malformed("5"))

    def test_up(self):
        self.check_field(6, ["0", "1"], ["12", "-1", "100"] + self.malformed("1"))

    def test_down_and_up_of_a_root(self):
        for place in (5, 6):
            for text in ("1", "11", "12", "-1", "-", "-0", "00"):
                self.assert_invalid(LINE + "\n" + with_field(LINE, place, text), 2)

    def test_a_dash_is_a_parent_only(self):
        for place in (0, 1, 2, 3, 5, 6):
            self.assert_invalid(with_field(LINE, place, "-"), 1)


class Spaces(Parse):
    def test_the_number_of_fields(self):
        for text in ("2", "2 0 0 1 - 0", LINE + " 0", "2 0 0 1 - 0 0 2 0 0 1 - 0 0", " "):
            self.assert_invalid(text, 1)

    def test_more_than_one_space(self):
        for k, sign in enumerate(LINE):
            if sign == " ":
                self.assert_invalid(LINE[:k] + " " + LINE[k:], 1)
                self.assert_invalid(LINE[:k] + LINE[k + 1:], 1)
        self.assert_invalid(" " + LINE, 1)
        self.assert_invalid(LINE + " ", 1)
        self.assert_invalid(LINE + " \n" + LINE, 1)
        self.assert_invalid(LINE + "\n " + LINE, 2)

    def test_empty_fields(self):
        for place in range(7):
            self.assert_invalid(with_field(LINE, place, ""), 1)

    def test_other_characters(self):
        for sign in "!\"#$&'()*+./:;<=>?@AZ[\\]^_`az{|}~":
            self.assert_invalid(LINE + sign, 1)
            self.assert_invalid(sign + LINE, 1)
            self.assert_invalid(LINE.replace(" ", sign), 1)
            self.assert_invalid(LINE + "\n" + with_field(LINE, 3, sign), 2)


if __name__ == "__main__":
    unittest.main()
