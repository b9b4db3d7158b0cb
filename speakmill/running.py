"""From a text to its answer, by the machine or by reckoning."""

from speakmill.checking import kinded
from speakmill.compiling import compiled
from speakmill.errors import BadInput
from speakmill.kinds import kind_text
from speakmill.machine import ended
from speakmill.numbers import GREATEST, is_whole
from speakmill.reading import read
from speakmill.reckoning import reckoned
from speakmill.scopes import placed
from speakmill.shortening import shortened

GREATEST_MOST = 1000


def checked(text):
    program = read(text)
    placing = placed(program)
    return (program, placing, kinded(placing))


def told_kind(text):
    let_by = checked(text)
    main = let_by[1][1]
    return kind_text(let_by[2][main][1])


def answer(text, numbers, most, is_short, rounds):
    return run_told(text, numbers, most, is_short, rounds)[0]


def run_told(text, numbers, most, is_short, rounds):
    placing = checked(text)[1]
    refuse_bad_inputs(placing, numbers, most)
    refuse_bad_ways(is_short, rounds)
    written = compiled(placing)
    blocks = shortened(written[0]) if is_short else written[0]
    machine = ended(blocks, written[1], numbers, most, rounds)
    return (machine.answer(), machine.rows_done(), len(machine.cells()))


def plain_answer(text, numbers, most):
    let_by = checked(text)
    refuse_bad_inputs(let_by[1], numbers, most)
    return reckoned(let_by[0], numbers, most)


def refuse_bad_inputs(placing, numbers, most):
    count = placing[0][placing[1]][0]
    if not is_list_of(numbers, lambda number: is_within(number, -GREATEST, GREATEST)) or len(numbers) != count:
        raise BadInput(f"the numbers are no list of {count} whole numbers that are not too great")
    if not is_within(most, 0, GREATEST_MOST):
        raise BadInput(f"most is no whole number from 0 to {GREATEST_MOST}")


def refuse_bad_ways(is_short, rounds):
    if not isinstance(is_short, bool):
        raise BadInput("what tells whether to shorten is no truth")
    if not is_list_of(rounds, lambda number: is_whole(number) and number >= 0):
        raise BadInput("the rounds are no list of whole numbers from 0 on")


def is_list_of(values, holds):
    return isinstance(values, list) and all([holds(value) for value in values])


def is_within(value, least, greatest):
    return is_whole(value) and least <= value <= greatest
