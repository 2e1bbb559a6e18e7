"""Marks in the place of rows: they go along a run as the rows, copies and letters do that they are of."""


def marked(scene, mark):
    """The scene with this mark for each row, each copy and each letter."""
    plans, web, words, goes, rows, copies, roads = scene
    return (
        plans, web, words, goes, (mark,) * len(rows), tuple([(seat, other, mark) for seat, other, _ in copies]),
        tuple([(seat, other, (mark,) * len(letters)) for seat, other, letters in roads]),
    )


def all_marked(rows, mark):
    """Of a row of roads one with this mark for each letter."""
    return tuple([(mark,) * len(letters) for letters in rows])


def brings(deed, mark):
    """The deed with this mark for each row that it brings."""
    if deed[0] == "put":
        word, seat, other, brought = deed
        _, _, on, back = brought
        return (word, seat, other, (mark, mark) + all_marked((on, back), mark))
    if deed[0] == "strike":
        word, seat, struck = deed
        _, copies, out, into = struck
        return (word, seat, (mark, (mark,) * len(copies), all_marked(out, mark), all_marked(into, mark)))
    return deed
