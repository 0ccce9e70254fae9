"""What part 8 tells of the answers of cuts and pieces, straight from the document."""

from tests.tablemaking import mixed_as_told


def answer_as_told(reader, row):
    (both, right, left, _), letters, _ = reader
    if isinstance(row, str):
        return dict(letters)[row]
    if row[0] in ("right", "left"):
        return (right if row[0] == "right" else left)[answer_as_told(reader, row[1])]
    answers = [answer_as_told(reader, part) for part in row[1]]
    if row[0] == "mix":
        return mixed_as_told(reader[0], answers)
    return put_together(both, answers)


def put_together(both, answers):
    found = answers[0]
    for s in answers[1:]:
        found = both[found][s]
    return found


def cuts_as_told(reader, row):
    """[8.1]: the set of the pairs."""
    both = reader[0][0]
    if isinstance(row, str):
        return set()
    if row[0] == "join":
        x, found = answer_as_told(reader, row[1][0]), cuts_as_told(reader, row[1][0])
        for part in row[1][1:]:
            y = answer_as_told(reader, part)
            found = {(p, both[q][y]) for p, q in found} | {(x, y)} | {(both[x][p], q) for p, q in cuts_as_told(reader, part)}
            x = both[x][y]
        return found
    z = answer_as_told(reader, row)
    if row[0] == "mix":
        found = {(z, z)}
        for part in row[1]:
            x = answer_as_told(reader, part)
            found |= {(both[z][p], both[q][z]) for p, q in cuts_as_told(reader, part)} | {(z, both[x][z]), (both[z][x], z)}
        return found
    x, found = answer_as_told(reader, row[1]), set()
    for k in range(13):
        for p, q in cuts_as_told(reader, row[1]):
            if row[0] == "right":
                found.add((put_together(both, [x] * k + [p]), both[q][z]))
            else:
                found.add((both[z][p], put_together(both, [q] + [x] * k)))
        if k:
            found.add((put_together(both, [x] * k), z) if row[0] == "right" else (z, put_together(both, [x] * k)))
    return found


def pieces_as_told(reader, row):
    """[8.5]: the sets B, E, I."""
    both = reader[0][0]
    x = answer_as_told(reader, row)
    if isinstance(row, str):
        return {x}, {x}, {x}
    if row[0] == "join":
        x, (B, E, I) = answer_as_told(reader, row[1][0]), pieces_as_told(reader, row[1][0])
        for part in row[1][1:]:
            y, (By, Ey, Iy) = answer_as_told(reader, part), pieces_as_told(reader, part)
            I = I | Iy | {both[e][b] for e in E for b in By}
            B, E = B | {both[x][b] for b in By}, Ey | {both[e][y] for e in E}
            x = both[x][y]
        return B, E, I
    if row[0] == "mix":
        m, parts = x, [pieces_as_told(reader, part) for part in row[1]]
        B = {m} | {both[m][b] for part in parts for b in part[0]}
        E = {m} | {both[e][m] for part in parts for e in part[1]}
        I = B | E | {i for part in parts for i in part[2]}
        return B, E, I | {put_together(both, [e, m, b]) for one in parts for other in parts for e in one[1] for b in other[0]}
    z, x, (Bx, Ex, Ix) = x, answer_as_told(reader, row[1]), pieces_as_told(reader, row[1])
    inner = {put_together(both, [e] + [x] * k + [b]) for e in Ex for b in Bx for k in range(13)}
    if row[0] == "right":
        B = {z} | {put_together(both, [x] * k + [b]) for b in Bx for k in range(13)}
        E = {z} | {both[e][z] for e in Ex}
        return B, E, Ix | inner | E
    B = {z} | {both[z][b] for b in Bx}
    E = {z} | {put_together(both, [e] + [x] * k) for e in Ex for k in range(13)}
    return B, E, Ix | inner | B


def sorts_as_told(row):
    """[8.3]: (whether there is a first place, whether a last one, the set of the sorts of cuts)."""
    if isinstance(row, str):
        return True, True, set()
    names = {(True, True): "jump", (True, False): "last", (False, True): "first", (False, False): "gap"}
    parts = [sorts_as_told(part) for part in ((row[1],) if row[0] in ("right", "left") else row[1])]
    found = set().union(*(part[2] for part in parts))
    if row[0] == "join":
        return parts[0][0], parts[-1][1], found | {names[one[1], other[0]] for one, other in zip(parts, parts[1:])}
    if row[0] == "mix":
        return False, False, found | {"gap"} | {names[False, part[0]] for part in parts} | {names[part[1], False] for part in parts}
    (first, last, _), = parts
    return first and row[0] == "right", last and row[0] == "left", found | {names[last, first]}


def next_pairs_as_told(row):
    """[8.4]: (the first letter, the last one, the set of the pairs)."""
    if isinstance(row, str):
        return row, row, set()
    parts = [next_pairs_as_told(part) for part in ((row[1],) if row[0] in ("right", "left") else row[1])]
    found = set().union(*(part[2] for part in parts))
    if row[0] == "mix":
        return None, None, found
    beside = list(zip(parts, parts[1:])) if row[0] == "join" else [(parts[0], parts[0])]
    found |= {(one[1], other[0]) for one, other in beside if one[1] and other[0]}
    return parts[0][0] if row[0] != "left" else None, parts[-1][1] if row[0] != "right" else None, found


# Three rows of which the first two are not one with the last one: wrong in the sides, but right in their answers.
NO_TWO_ROWS = [
    (), (None,), ("a",), ("a", "b", "a"), ["a", "b"], ("a", None), (None, "a"), ("A", "b"), ("a", "bb"), ("a", ["right", "a"]),
    ("a", ("right",)), ("a", ("join", ("a",))), (True, "a"), ("a", ()), ("a", 0), {"a": "b"}, "ab", 0, False, True, ("mix", ()),
    (("mix", ()), "a"), (("join", ["a", "b"]), "a"),
]
