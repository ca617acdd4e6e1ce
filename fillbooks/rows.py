"""Terms in rows: a list in which each unlike term stands once, so that no term has to be written out.

A row is a variable, or a tuple of a name and the tuple of the numbers of the rows of what stands
right in it; these stand ahead of it. Any string is a variable here, and atoms are terms.
"""


def written(rows):
    """Return the list of the terms of the rows; what stands in several of them is one part of them all."""
    terms = []
    for row in rows:
        if isinstance(row, str):
            terms.append(row)
        else:
            terms.append((row[0], tuple([terms[k] for k in row[1]])))
    return terms


def row_sizes(rows):
    """Return the list of how many names and variables the terms of the rows have."""
    sizes = []
    for row in rows:
        sizes.append(1 if isinstance(row, str) else 1 + sum([sizes[k] for k in row[1]]))
    return sizes


def as_one(lists):
    """Return one list of rows for several ones, in which equal terms have one number, wherever they stood.

    The lists are tuples of rows and numbers of some of these; with the new rows come the lists of
    the new numbers of these.
    """
    rows = []
    known = {}
    told = []
    for old, chosen in lists:
        new = []
        for row in old:
            key = row if isinstance(row, str) else (row[0], tuple([new[k] for k in row[1]]))
            if key not in known:
                known[key] = len(rows)
                rows.append(key)
            new.append(known[key])
        told.append([new[k] for k in chosen])
    return rows, told
