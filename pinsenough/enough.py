"""Whether places are enough for a reading of a program."""

from pinsenough.readings import reading_by, readings_many


def agree(one, other, places):
    return all([one[node] == other[node] for node in places])


def other_reading(table, program, reading, places):
    if are_enough(table, program, reading, places):
        return None
    pins = {node: reading[node] for node in places}
    least = reading_by(table, program, pins, 0)
    if least != reading:
        return least
    return reading_by(table, program, pins, 1)


def are_enough(table, program, reading, places):
    pins = {node: reading[node] for node in places}
    return sum(readings_many(table, program, pins)) == 1
