"""How steps are found for all that rows of some letters come to."""

from everrows.steps import entry_of, tidied

# The word of a dealing of answers, and that of an entry of steps.
WORDS = {"both": "join", "right": "right", "left": "left", "mixed": "mix"}


def steps_by_dealings(letters, dealings_of_all, parts_of_dealing):
    """The dict, by things ascending, that has steps for each that rows have, letters being pairs (letter, thing).

    dealings_of_all tells, for the ascending tuple of the things known so far, the list of pairs (dealing, what comes of
    it), parts_of_dealing, for a dealing and that tuple, the list of the things that are dealt with.
    """
    entries, numbers, many = [], {}, 0
    for letter, thing in letters:
        if thing not in numbers:
            numbers[thing] = len(entries)
            entries.append(letter)
    while many < len(entries):
        many, known = len(entries), tuple(sorted(numbers))
        for dealing, thing in dealings_of_all(known):
            if thing not in numbers:
                parts = parts_of_dealing(dealing, known)
                numbers[thing] = len(entries)
                entries.append(entry_of(WORDS[dealing[0]], [numbers[part] for part in parts]))
    return {thing: tidied(tuple(entries[:numbers[thing] + 1])) for thing in sorted(numbers)}
