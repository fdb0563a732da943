"""Whether patterns cover a type, and whether each of them is used (points 31 and 32).

Patterns are looked at as rows: the patterns of one row are for the same values as those of another one,
one beside the other. Names count as `any`.
"""

from guanaco.monos import instance

ANY = ("any",)


def missing(data, ty, patterns):
    """A pattern whose values fit none of the patterns, or None if these cover the type."""
    return find_missing(data_table(data), ty, patterns)


def unused(data, ty, patterns):
    """The index of the first pattern that is not used, or None."""
    return find_unused(data_table(data), ty, patterns)


def data_table(data):
    """The dict from the names of type constructors to their letters and constructors."""
    return {name: (letters, constructors) for name, letters, constructors in data}


def find_missing(table, ty, patterns):
    """As `missing`, with a table instead of data."""
    found = find_gap(table, [ty], [[pattern] for pattern in patterns])
    return None if found is None else found[0]


def find_unused(table, ty, patterns):
    """As `unused`, with a table instead of data."""
    rows = []
    for k, pattern in enumerate(patterns):
        if not is_useful(table, [ty], rows, [pattern]):
            return k
        rows.append([pattern])
    return None


def constructors_of(table, ty):
    """The constructors of a data type as in its entry, or None for a type that is without end."""
    if ty[0] != "con" or ty[1] == "exn" or ty[1] not in table or not table[ty[1]][1]:
        return None
    return table[ty[1]][1]


def head_argument(table, ty, head):
    """The type of the argument of a constructor or an exception, or None."""
    letters, constructors = table[ty[1]]
    for name, argument in constructors:
        if name == head[1] and argument is not None:
            return instance((letters, argument), ty[2])
    return None


def head_of_pattern(pattern):
    """What a value must be made of to fit a pattern: None for any value, otherwise the kind and the name."""
    tag = pattern[0]
    if tag in ("any", "name"):
        return None
    if tag == "ptuple":
        return (tag, "")
    if tag == "pcon":
        return (tag, pattern[1][-1])
    return (tag, pattern[1])


def first_test(row):
    """The first place in a row where not all values fit, or None."""
    for place, pattern in enumerate(row):
        if head_of_pattern(pattern) is not None:
            return place
    return None


def inner_types(table, ty, head):
    """The list of the types of the parts that values of a type with this head have."""
    kind = head[0]
    if kind == "ptuple":
        return list(ty[1])
    if kind != "pcon":
        return []
    argument = head_argument(table, ty, head)
    return [] if argument is None else [argument]


def inner_patterns(pattern, count):
    """The list of the patterns for the parts of a value; `count` tells how many parts there are."""
    if pattern[0] == "ptuple":
        return list(pattern[1])
    if pattern[0] == "pcon" and count == 1:
        return [pattern[2]]
    return [ANY] * count


def without(row, place):
    """A row without what is at a place."""
    return row[:place] + row[place + 1:]


def narrowed(rows, place, head, count):
    """The rows that values with a head at a place can fit, with its parts in front."""
    found = []
    for row in rows:
        own = head_of_pattern(row[place])
        if own is None or own == head:
            found.append(inner_patterns(row[place], count) + without(row, place))
    return found


def other_rows(rows, place):
    """The rows that values fit which have a head at the place that none of the rows has."""
    return [without(row, place) for row in rows if head_of_pattern(row[place]) is None]


def find_gap(table, types, rows):
    """A list of patterns, one for each of the types, whose values fit no row; or None."""
    if not rows:
        return [ANY for _ in types]
    place = first_test(rows[0])
    if place is None:
        return None
    ty = types[place]
    if rows[0][place][0] == "ptuple":
        return gap_below(table, types, rows, place, ("ptuple", ""))
    constructors = constructors_of(table, ty)
    seen = {head_of_pattern(row[place]): True for row in rows}
    if constructors is not None:
        absent = [pair for pair in constructors if ("pcon", pair[0]) not in seen]
        if not absent:
            for name, _ in constructors:
                found = gap_below(table, types, rows, place, ("pcon", name))
                if found is not None:
                    return found
            return None
    # What fits no row whatever is here fits none, whichever head it has.
    found = find_gap(table, without(types, place), other_rows(rows, place))
    if found is None:
        return None
    pattern = ANY
    if constructors is not None:
        name, argument = absent[0]
        pattern = ("pcon", (name,), None if argument is None else ANY)
    return found[:place] + [pattern] + found[place:]


def gap_below(table, types, rows, place, head):
    """As `find_gap`, for the values that have a head at a place."""
    inner = inner_types(table, types[place], head)
    found = find_gap(table, inner + without(types, place), narrowed(rows, place, head, len(inner)))
    if found is None:
        return None
    parts = found[:len(inner)]
    rest = found[len(inner):]
    if head[0] == "ptuple":
        pattern = ("ptuple", tuple(parts))
    else:
        pattern = ("pcon", (head[1],), parts[0] if parts else None)
    return rest[:place] + [pattern] + rest[place:]


def is_useful(table, types, rows, row):
    """Whether some values that fit a row fit none of the other rows."""
    place = first_test(row)
    while rows and place is not None:
        head = head_of_pattern(row[place])
        inner = inner_types(table, types[place], head)
        rows = narrowed(rows, place, head, len(inner))
        row = inner_patterns(row[place], len(inner)) + without(row, place)
        types = inner + without(types, place)
        place = first_test(row)
    return find_gap(table, types, rows) is not None
