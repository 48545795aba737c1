"""Tellings run on a machine: what comes of a deed, and whether the sentences hold on the way."""

from widewords.deeds import answer_words, deed_rows, rest_words
from widewords.machine import Machine
from widewords.numbers import lowest_words
from widewords.sentences import Moment, holds_at
from widewords.tellings import steps_of
from widewords.worths import refuse_deed

MARKS = 4


def ran(deed, w, n, x, y):
    """(answer, rest, marks) of a deed of the plain worths x and y, by the rows of its telling; refused as comes is."""
    refuse_deed(deed, w, n, x, y)
    machine = machine_with(w, n, x, y)
    machine.run(deed_rows(deed, w, n))
    answer = number_in(machine, "c", answer_words(deed, n))
    return answer, number_in(machine, "d", rest_words(deed, n)), number_in(machine, "m", MARKS)


def held(telling, w, n, x, y):
    """Whether each sentence of a telling holds each time it is asked, with x in a and y in b; refused with NoTelling as
    unrolled is, ahead of all rows."""
    steps = steps_of(telling, w, n)
    machine = machine_with(w, n, x, y)
    for step in steps:
        if step[0] == "row":
            machine.do(step[1])
        elif not holds_at(step[1], Moment(w, n, step[2], step[3], machine.words, machine.mark())):
            return False
    return True


def machine_with(w, n, x, y):
    """A machine that holds the number of x in a and that of y in b."""
    machine = Machine(w)
    for letter, worth in (("a", x), ("b", y)):
        for at, word in enumerate(lowest_words(worth, w, n)):
            machine.put(letter, at, word)
    return machine


def number_in(machine, letter, many):
    """The number in that many cells of a letter, from the first on."""
    return tuple([machine.word(letter, at) for at in range(many)])
