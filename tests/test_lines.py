import re
import unittest

from widewords.errors import NoLine
from widewords.lines import read_line

SIGNS = [chr(code) for code in range(32, 127)]
NAME = "[a-z]{1,8}"
WHOLE = "(?:0|-?[1-9][0-9]{0,59})"
TWO = "(?:sum|difference|both|any|odd|product|sproduct|quotient|squotient)"
ONE = f"(?:turned|bare|(?:left|right|down|roll) {WHOLE})"
# The lines of [37] and [38], written anew.
LINES = re.compile("|".join([
    f"(?:plain|signed) {NAME} {WHOLE} {WHOLE} {WHOLE}",
    f"let {NAME} {TWO} {NAME} {NAME}",
    f"let {NAME} {ONE} {NAME}",
    f"s?rest {NAME} {NAME} {NAME}",
    f"s?(?:wider|narrower) {NAME} {NAME} {WHOLE}",
    f"(?:drop|show|worth|sworth) {NAME}",
    "undo|redo|names",
    f"(?:compare|carries) {NAME} {NAME}",
    f"rows (?:{TWO}|{ONE}) {WHOLE} {WHOLE}",
]))
RIGHT = {
    "plain x 4 2 200": ("plain", "x", 4, 2, 200),
    "signed abcdefgh 16 4 -1": ("signed", "abcdefgh", 16, 4, -1),
    "let c sum a b": ("let", "c", ("sum",), "a", "b"),
    "let c difference a a": ("let", "c", ("difference",), "a", "a"),
    "let a turned a": ("let", "a", ("turned",), "a"),
    "let c both a b": ("let", "c", ("both",), "a", "b"),
    "let c any a b": ("let", "c", ("any",), "a", "b"),
    "let c odd a b": ("let", "c", ("odd",), "a", "b"),
    "let c bare a": ("let", "c", ("bare",), "a"),
    "let c product a b": ("let", "c", ("product",), "a", "b"),
    "let c sproduct a b": ("let", "c", ("signed product",), "a", "b"),
    "let c quotient a b": ("let", "c", ("quotient",), "a", "b"),
    "let c squotient a b": ("let", "c", ("signed quotient",), "a", "b"),
    "let c left 0 a": ("let", "c", ("left", 0), "a"),
    "let c right 100 a": ("let", "c", ("right", 100), "a"),
    "let c down 101 a": ("let", "c", ("down", 101), "a"),
    "let c roll -7 a": ("let", "c", ("roll", -7), "a"),
    "rest c a b": ("rest", "c", "a", "b"),
    "srest c a b": ("srest", "c", "a", "b"),
    "wider c a 1": ("wider", "c", "a", 1),
    "swider c a 0": ("swider", "c", "a", 0),
    "narrower c a -3": ("narrower", "c", "a", -3),
    "snarrower c a 99": ("snarrower", "c", "a", 99),
    "drop a": ("drop", "a"),
    "undo": ("undo",),
    "redo": ("redo",),
    "show a": ("show", "a"),
    "worth a": ("worth", "a"),
    "sworth a": ("sworth", "a"),
    "compare a b": ("compare", "a", "b"),
    "rows sum 4 2": ("rows", ("sum",), 4, 2),
    "rows squotient 16 4": ("rows", ("signed quotient",), 16, 4),
    "rows bare -1 0": ("rows", ("bare",), -1, 0),
    "rows left 5 4 2": ("rows", ("left", 5), 4, 2),
    "carries a b": ("carries", "a", "b"),
    "names": ("names",),
}
# Words of the lines may be names, too.
AS_NAMES = {
    "let let sum let sum": ("let", "let", ("sum",), "let", "sum"),
    "let left left 3 left": ("let", "left", ("left", 3), "left"),
    "let turned turned turned": ("let", "turned", ("turned",), "turned"),
    "plain plain 4 1 0": ("plain", "plain", 4, 1, 0),
    "show names": ("show", "names"),
    "drop undo": ("drop", "undo"),
    "compare compare compare": ("compare", "compare", "compare"),
    "rest rest rest rest": ("rest", "rest", "rest", "rest"),
}
WRONG = [
    "", " ", "  ", "a", "let", "rows", "let c", "let c sum", "let c sum a", "let c sum a b d", "let c turned",
    "let c turned a b", "let c bare a b", "let c left a", "let c left 1", "let c left 1 a b", "let c left a 1",
    "let c compare a b", "let c led a", "let c signed product a b", "let sum a b", "let c a b", "rest c a", "srest c a",
    "rest c a b d", "wider c a", "wider c a b", "wider c 1", "wider c a 1 1", "drop", "drop a b", "undo a", "redo 1",
    "names a", "show", "show a b", "worth", "worth 1", "sworth", "compare a", "compare a b c", "carries a",
    "carries a b 4", "rows", "rows sum", "rows sum 4", "rows sum 4 2 1", "rows left 4 2", "rows compare 4 2",
    "rows led 4 2", "rows sum a b", "plain x 4 2", "plain x 4 2 1 1", "plain 4 2 1", "signed x 4 2", "Undo", "UNDO",
    "undo redo", "drop a\n", "show  a", "show a ", " show a", "show\ta",
]


def written(told):
    """The line of which a reading was told."""
    words = {"signed product": "sproduct", "signed quotient": "squotient"}
    found = []
    for each in told:
        if isinstance(each, tuple):
            found += [words.get(each[0], each[0]), *each[1:]]
        else:
            found.append(each)
    return " ".join(str(each) for each in found)


def changed_once(line):
    """A line with one sign put in, taken out or set otherwise."""
    found = [line[:at] + line[at + 1:] for at in range(len(line))]
    found += [line[:at] + sign + line[at:] for at in range(len(line) + 1) for sign in SIGNS]
    return found + [line[:at] + sign + line[at + 1:] for at in range(len(line)) for sign in SIGNS]


class LinesTest(unittest.TestCase):
    def check_refused(self, line):
        with self.assertRaises(NoLine, msg=repr(line)):
            read_line(line)

    def check_as_written_anew(self, line):
        if LINES.fullmatch(line):
            self.assertEqual(written(read_line(line)), line)
        else:
            self.check_refused(line)

    def test_each_kind(self):
        for line, wanted in (RIGHT | AS_NAMES).items():
            told = read_line(line)
            self.assertEqual(told, wanted)
            self.assertIs(type(told), tuple)
            self.assertTrue(LINES.fullmatch(line), line)

    def test_no_lines(self):
        for line in WRONG:
            self.check_refused(line)

    def test_changed_once(self):
        for line in RIGHT:
            for other in changed_once(line):
                self.check_as_written_anew(other)

    def test_blanks(self):
        for line in RIGHT:
            for other in (" " + line, line + " ", line.replace(" ", "  ", 1) + " " * (" " not in line)):
                self.check_refused(other)

    def test_a_word_more_or_fewer(self):
        for line in RIGHT:
            words = line.split(" ")
            for at in range(len(words)):
                self.check_as_written_anew(" ".join(words[:at] + words[at + 1:]))
                for more in ("a", "1", "-1", "sum", "left", "turned", "let"):
                    self.check_as_written_anew(" ".join(words[:at] + [more] + words[at:]))
                    self.check_as_written_anew(" ".join(words[:at] + [more] + words[at + 1:]))

    def test_names(self):
        for name in ("a", "z", "az", "abcdefgh", "zzzzzzzz", "undo"):
            self.assertEqual(read_line(f"show {name}"), ("show", name))
        for name in ("", "abcdefghi", "a" * 60, "a1", "1", "1a", "A", "aB", "a_", "a-b", "`", "{", "a.b", "0", "-"):
            for line in ("show {}", "let {} turned a", "let c turned {}", "let c sum a {}", "compare a {}",
                         "plain {} 4 2 1", "wider a {} 1", "rest a {} b", "drop {}"):
                self.check_refused(line.format(name))

    def test_figures(self):
        sixty = "1" + "0" * 59
        lines = ["plain a {} 4 4", "plain a 4 {} 4", "signed a 4 4 {}", "let c roll {} a", "swider a b {}", "rows sum {} 4",
                 "rows sum 4 {}", "rows down {} 4 4"]
        for line in lines:
            for figures in ("0", "1", "9", "10", "-1", "-10", "909", sixty, "-" + sixty, "9" * 60, "-" + "9" * 60):
                told = read_line(line.format(figures))
                self.assertEqual(written(told), line.format(figures))
            for figures in ("-0", "00", "01", "+1", "-", "--1", "-01", "1-", "", "+", "+0", "1_0", "1.", "1e1", "0x1", "a",
                            sixty + "0", "-" + sixty + "0", "9" * 61, "0" * 60, "-" + "0" * 60, "1 1", " 1", "1 "):
                self.check_refused(line.format(figures))
        self.assertEqual(read_line(f"signed a 4 1 -{sixty}"), ("signed", "a", 4, 1, -10 ** 59))
