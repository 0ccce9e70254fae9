"""Letters of levels: letters, lumps in their one form, and mixtures."""

from everrows.common import depth_within, each_told, inner_first, is_told_throughout
from everrows.lots import ascend
from everrows.rows import is_letter


def letter_text(letter):
    """The text of a letter of levels."""
    return each_told(letter, letters_of, _text_over)[-1]


def letters_of(letter):
    """The tuple of the letters of levels of which one is told, () of a letter."""
    if isinstance(letter, str):
        return ()
    return letter[1] if letter[0] == "mixture" else letter[1] + letter[2] + letter[3]


def words_of(letter, things):
    """What stands for a lump's left, middle and right letters, things being a list with one for each of its letters."""
    _, left, middle, right = letter
    end = len(left) + len(middle)
    return things[:len(left)], things[len(left):end], things[end:]


def _text_over(letter, texts):
    if isinstance(letter, str):
        return letter
    if letter[0] == "mixture":
        return "[" + ", ".join(texts) + "]"
    left, middle, right = words_of(letter, texts)
    ahead = ["<(" + " ".join(left) + ")"] if left else []
    behind = ["(" + " ".join(right) + ")>"] if right else []
    return "{" + " ".join([*ahead, *middle, *behind]) + "}"


def root(word):
    """The shortest tuple of which a word is a number of repetitions."""
    for length in range(1, len(word)):
        if word[:length] * (len(word) // length) == word:
            return word[:length]
    return word


def lump_of(left, middle, right):
    """The one form of what a round to the left, a word and a round to the right tell."""
    if not left and not right and len(middle) == 1:
        return middle[0]
    left, right = root(left), root(right)
    # Two rounds that are not one round all through differ within as many letters as both have together.
    unrolled = left * (len(right) // max(len(left), 1) + 2)
    middle, right = _taken_off(unrolled + middle, right)
    if left and right and not middle:
        right = _first_turn(right)
        return "lump", right, (), right
    middle, left = _taken_off(middle[::-1], left[::-1])
    return "lump", left[::-1], middle[::-1], right


def _taken_off(word, endless):
    """A word as short as can be ahead of a round to the right, and that round turned likewise."""
    many = 0
    while endless and many < len(word) and word[-1 - many] == endless[-1 - many % len(endless)]:
        many += 1
    start = -many % len(endless) if endless else 0
    return word[:len(word) - many], endless[start:] + endless[:start]


def _first_turn(word):
    """The turn of a round whose text is the least."""
    texts = [letter_text(letter) for letter in word]
    _, k = min([(" ".join(texts[k:] + texts[:k]), k) for k in range(len(word))])
    return word[k:] + word[:k]


def is_level_letter(value):
    """Whether any value is a letter of levels."""
    if not is_told_throughout(value, _letters_told):
        return False
    return all(_is_in_form(letter) for letter in inner_first(value, letters_of))


def _letters_told(value):
    """What must be letters of levels if the value shall be one, or None if it is none, whatever they are."""
    if is_letter(value):
        return ()
    if not isinstance(value, tuple) or not all(isinstance(part, tuple) for part in value[1:]):
        return None
    if len(value) != (4 if value[:1] == ("lump",) else 2) or value[0] not in ("lump", "mixture"):
        return None
    letters = letters_of(value)
    return letters if letters else None


def _is_in_form(letter):
    """Whether a letter, a lump or a mixture of letters of levels is one itself."""
    if isinstance(letter, str):
        return True
    if letter[0] == "mixture":
        return ascend([letter_text(part) for part in letter[1]])
    return lump_of(letter[1], letter[2], letter[3]) == letter


def turned_letter(letter):
    """A letter of levels turned about."""
    return each_told(letter, letters_of, _turned_over)[-1]


def _turned_over(letter, turned):
    if isinstance(letter, str):
        return letter
    if letter[0] == "mixture":
        return "mixture", tuple(sorted(turned, key=letter_text))
    left, middle, right = [tuple(letters[::-1]) for letters in words_of(letter, turned)]
    return lump_of(right, middle, left)


def width(letter):
    """How many letters from a to z stand in a letter of levels."""
    return len([part for part in inner_first(letter, letters_of) if isinstance(part, str)])


def depth(letter):
    """How many lumps and mixtures stand within one another in a letter of levels."""
    return depth_within(letter, letters_of)
