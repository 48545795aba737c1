"""The machine: a word in each cell, one mark, and the rows that it does."""

from widewords.errors import NoCell, NoRow, NoWord
from widewords.made import highest, made
from widewords.rows import is_cell, is_row
from widewords.shapes import is_whole


class Machine:
    """A machine of width w; all its cells hold 0 at the beginning, its mark is 0."""

    def __init__(self, w):
        self.w = w
        # The words of the cells that have been put to, by their cells.
        self.words = {}
        self.marked = 0

    def put(self, letter, at, word):
        """Lets a cell hold a word; refused with NoCell, else with NoWord."""
        cell = known_cell(letter, at)
        if not is_whole(word, 0, highest(self.w)):
            raise NoWord(f"this is no word of width {self.w}")
        self.words[cell] = word

    def word(self, letter, at):
        """What a cell holds; refused with NoCell."""
        return self.held_in(known_cell(letter, at))

    def mark(self):
        """The mark, 0 or 1."""
        return self.marked

    def do(self, row):
        """Does one row; refused with NoRow where it is none."""
        refuse_row(row)
        self.go_row(row)

    def run(self, rows):
        """Does rows, one behind the other; where one of them is none, none is done, refused with NoRow."""
        for row in rows:
            refuse_row(row)
        for row in rows:
            self.go_row(row)

    def held_in(self, cell):
        return self.words.get(cell, 0)

    def go_row(self, row):
        if row[0] == "mark":
            self.marked = row[1]
        elif row[0] == "ask":
            self.marked = 0 if self.held_in(row[1]) == 0 else 1
        elif row[0] == "set":
            self.words[row[1]] = row[2]
        elif row[0] == "times":
            self.go_times(row)
        else:
            self.go_made(row)

    def go_times(self, row):
        product = self.held_in(row[3]) * self.held_in(row[4])
        self.words[row[1]] = product & highest(self.w)
        self.words[row[2]] = product >> self.w

    def go_made(self, row):
        # The last cell is y; in a row of one word it is x again, which the row leaves aside as y.
        x, y = self.held_in(row[2]), self.held_in(row[-1])
        word, mark = made(row[0], self.w, x, y, self.marked)
        self.words[row[1]] = word
        self.marked = mark


def known_cell(letter, at):
    """The cell of a letter and an at; refused with NoCell where there is none."""
    if not is_cell((letter, at)):
        raise NoCell("this is no cell")
    return (letter, at)


def refuse_row(thing):
    if not is_row(thing):
        raise NoRow("this is no row")
