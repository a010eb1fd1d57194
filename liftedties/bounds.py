"""The bounds within which the document keeps its webs, boards and benches."""

MAX_PLACES = 12
MAX_SMALL = 5
MAX_ROWS = 12
MAX_COLUMNS = 12
MAX_NAMES = 6
MAX_NAME = 8
MAX_NEST = 20
MAX_EDITS = 40
BATCH = 12
