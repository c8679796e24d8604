"""How many rows and views there are, told from how each one may be seen by itself."""


def views_many(many, houses):
    """How many unlike VIEWS rows of so many folk have."""
    told = 1
    for taller in range(many):
        told *= len(stretch_sizes(taller, houses))
    return told


def rows_seeing(many, left, right, *, mine, its):
    """How many rows there are of which the left floor sees just so many as mine says, the right one as its says."""
    ways = {(0, 0): 1}
    for taller in range(many):
        ways = ways_with_one_more(ways, chances(taller, left, right))
    return ways.get((mine, its), 0)


def most_rows(many, houses):
    """The greatest number of rows with the same VIEWS."""
    told = 1
    for taller in range(many):
        told *= max(stretch_sizes(taller, houses))
    return told


def known_rows(many, houses):
    """How many rows are the only one with their VIEWS."""
    told = 1
    for taller in range(many):
        told *= stretch_sizes(taller, houses).count(1)
    return told


def stretch_sizes(taller, houses):
    """The sizes of the stretches into which floors part the numbers that one may have ahead, of so many taller ones."""
    left, right = houses
    sizes = [1]
    for ahead in range(taller):
        # These two alone tell whether it has ahead of them in front or one more.
        if ahead + 1 in left or taller - ahead in right:
            sizes.append(1)
        else:
            sizes[-1] += 1
    return sizes


def chances(taller, left, right):
    """By how many numbers ahead one is seen by the left floor (1 or 0) and by the right one, of so many taller ones."""
    told = {}
    for ahead in range(taller + 1):
        seen = (int(ahead < left), int(taller - ahead < right))
        told[seen] = told.get(seen, 0) + 1
    return told


def ways_with_one_more(ways, more):
    """How many rows have each pair of numbers seen, when one more has come who is seen in these ways."""
    told = {}
    for (mine, its), rows in ways.items():
        for (left, right), times in more.items():
            seen = (mine + left, its + right)
            told[seen] = told.get(seen, 0) + rows * times
    return told
