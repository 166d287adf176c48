"""A line of calls on one object, as a list of whole numbers, and its answers."""

from guardedparts.commands import cut, move, paint, put
from guardedparts.deciding import accept, reject
from guardedparts.guarding import dissolve, grant, guard, others, revoke, transfer
from guardedparts.noting import note, notes, unnote
from guardedparts.settings import author, clock, track
from guardedparts.state import State
from guardedparts.telling import tell_change, tell_level, tell_part, tell_right, tell_row, tell_text

PUT_CALL = 3

# How many numbers stand behind each call's own; the signs of put come besides.
WIDTHS = (1, 1, 1, 2, 2, 4, 3, 3, 1, 2, 4, 2, 2, 1, 1, 2, 1, 2, 2, 1, 0, 1, 1, 0)


def answers(calls):
    """The answers to a list of calls on a new object."""
    return answers_on(State(), calls)


def answers_on(state, calls):
    """The answers to a list of calls on an object, each with its length ahead."""
    told = []
    start = 0
    while start < len(calls):
        end = call_end(calls, start)
        answer = answer_to(state, calls[start], calls[start + 1:end])
        told.append(len(answer))
        told.extend(answer)
        start = end
    return told


def call_end(calls, start):
    """Where the call ends that begins at start."""
    number = calls[start]
    end = start + 1 + WIDTHS[number]
    if number == PUT_CALL:
        end = end + calls[end - 1]
    return end


def answer_to(state, number, given):
    """The answer to one call, by its number and what stands behind it."""
    if number <= 2:
        return answer_to_setting(state, number, given)
    if number <= 6:
        return answer_to_command(state, number, given)
    if number <= 12:
        return answer_to_guarding(state, number, given)
    if number <= 16:
        return answer_to_deciding(state, number, given)
    return answer_to_question(state, number, given)


def answer_to_setting(state, number, given):
    """The answer to author, clock or track."""
    if number == 0:
        return author(state, given[0])
    if number == 1:
        return clock(state, given[0])
    return track(state, given[0])


def answer_to_command(state, number, given):
    """The answer to put, cut, paint or move."""
    if number == PUT_CALL:
        return put(state, given[0], given[2:])
    if number == 4:
        return cut(state, given[0], given[1])
    if number == 5:
        return paint(state, given[0], given[1], given[2], given[3])
    return move(state, given[0], given[1], given[2])


def answer_to_guarding(state, number, given):
    """The answer to guard, dissolve, others, grant, revoke or transfer."""
    if number == 7:
        return guard(state, given[0], given[1], given[2])
    if number == 8:
        return dissolve(state, given[0])
    if number == 9:
        return others(state, given[0], given[1])
    if number == 10:
        return grant(state, given[0], given[1], given[2], given[3])
    if number == 11:
        return revoke(state, given[0], given[1])
    return transfer(state, given[0], given[1])


def answer_to_deciding(state, number, given):
    """The answer to accept, reject, note or unnote."""
    if number == 13:
        return accept(state, given[0])
    if number == 14:
        return reject(state, given[0])
    if number == 15:
        return note(state, given[0], given[1])
    return unnote(state, given[0])


def answer_to_question(state, number, given):
    """The answer to right, level, part, row, text, change or notes."""
    if number == 17:
        return tell_right(state, given[0], given[1])
    if number == 18:
        return tell_level(state, given[0], given[1])
    if number == 19:
        return tell_part(state, given[0])
    if number == 20:
        return tell_row(state)
    if number == 21:
        return tell_text(state, given[0])
    if number == 22:
        return tell_change(state, given[0])
    return notes(state)
