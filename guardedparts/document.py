"""A line of calls on one object, as a list of whole numbers, and its answers."""

from guardedparts.commands import cut, move, paint, put
from guardedparts.guarding import dissolve, grant, guard, others, revoke
from guardedparts.noting import notes
from guardedparts.settings import author, clock, track
from guardedparts.state import State

PUT_CALL = 3

# How many numbers stand behind each call's own; the signs of put come besides.
WIDTHS = {0: 1, 1: 1, 2: 1, 3: 2, 4: 2, 5: 4, 6: 3, 7: 3, 8: 1, 9: 2, 10: 4, 11: 2, 23: 0}


def answers(calls):
    """The answers to a list of calls on a new object."""
    return answers_on(State(), calls)


def answers_on(state, calls):
    """The answers to a list of calls on an object, each with its length ahead."""
    told = []
    start = 0
    while start < len(calls):
        end = call_end(calls, start)
        answer = answer_to(state, calls[start], calls[start + 1:end])
        told.append(len(answer))
        told.extend(answer)
        start = end
    return told


def call_end(calls, start):
    """Where the call ends that begins at start."""
    number = calls[start]
    if number not in WIDTHS:
        raise NotImplementedError(f"call {number}")
    end = start + 1 + WIDTHS[number]
    if number == PUT_CALL:
        end = end + calls[end - 1]
    return end


def answer_to(state, number, given):
    """The answer to one call, by its number and what stands behind it."""
    if number <= 2:
        return answer_to_setting(state, number, given)
    if number <= 6:
        return answer_to_command(state, number, given)
    if number <= 11:
        return answer_to_guarding(state, number, given)
    return notes(state)


def answer_to_setting(state, number, given):
    """The answer to author, clock or track."""
    if number == 0:
        return author(state, given[0])
    if number == 1:
        return clock(state, given[0])
    return track(state, given[0])


def answer_to_command(state, number, given):
    """The answer to put, cut, paint or move."""
    if number == PUT_CALL:
        return put(state, given[0], given[2:])
    if number == 4:
        return cut(state, given[0], given[1])
    if number == 5:
        return paint(state, given[0], given[1], given[2], given[3])
    return move(state, given[0], given[1], given[2])


def answer_to_guarding(state, number, given):
    """The answer to guard, dissolve, others, grant or revoke."""
    if number == 7:
        return guard(state, given[0], given[1], given[2])
    if number == 8:
        return dissolve(state, given[0])
    if number == 9:
        return others(state, given[0], given[1])
    if number == 10:
        return grant(state, given[0], given[1], given[2], given[3])
    return revoke(state, given[0], given[1])
