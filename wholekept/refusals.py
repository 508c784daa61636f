"""The numbers that tell why a call is refused."""

NO_REFUSAL = 0

PLACE = -1
LONG = -2
TWICE = -3
CLASH = -4
BROKEN = -5
FULL = -6
ABSENT = -7
HELD = -8
LIMIT = -9
FORM = -10
RULE = -11
