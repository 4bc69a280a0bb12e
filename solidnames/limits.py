"""The limits of numbers and counts."""

LIMIT = 10 ** 30
LINES = 20
MAX_FEATURES = 12
MAX_COPIES = 16
MAX_SOLIDS = 8
