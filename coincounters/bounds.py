"""The bounds that the other files share."""

LIMIT = 10 ** 12
MAX_KINDS = 4
MAX_RATE = 5
MAX_COUNTERS = 8
MAX_ROUTE = 200
SMALL_ROUTE = 3
SMALL_STEPS = 6
MAX_LOOP = 4
MAX_EDITS = 60
BATCH = 20
