"""The numbers that refused calls answer."""

NO_PLACE = -1
OUT_OF_RANGE = -2
OUT_OF_ORDER = -3
NOT_THERE = -4
NO_GRANT = -5
ALL_MADE = -7
NO_RIGHT = -9
