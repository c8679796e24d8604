"""How many lots and rows are listed at the most."""

MOST_LOTS = 100
MOST_ROWS = 500
