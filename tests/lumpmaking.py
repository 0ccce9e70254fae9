"""Letters of levels that several tests use, and what is told of them straight from the document."""

from everrows.lumps import lump_of


def text_as_told(letter):
    """[7.1], straight from the document."""
    if isinstance(letter, str):
        return letter
    if letter[0] == "mixture":
        return "[" + ", ".join(map(text_as_told, letter[1])) + "]"
    left, middle, right = ([text_as_told(part) for part in word] for word in letter[1:])
    parts = [f"<({' '.join(left)})"] if left else []
    parts += middle
    parts += [f"({' '.join(right)})>"] if right else []
    return "{" + " ".join(parts) + "}"


def random_word(rng, depth, least, most, letters="ab"):
    return tuple(random_level_letter(rng, depth, letters) for _ in range(rng.randint(least, most)))


def random_level_letter(rng, depth, letters="ab"):
    if depth == 0 or rng.random() < 0.4:
        return rng.choice(letters)
    if rng.random() < 0.3:
        word = random_word(rng, depth - 1, 1, 3, letters)
        return ("mixture", tuple(sorted(set(word), key=text_as_told)))
    left, middle, right = (random_word(rng, depth - 1, 0, 2, letters) for _ in range(3))
    return lump_of(left, middle, right) if left or middle or right else rng.choice(letters)


def is_root_as_told(word):
    n = len(word)
    return not any(n % d == 0 and all(word[k] == word[k % d] for k in range(n)) for d in range(1, n))


def in_one_form(left, middle, right):
    """[7.2], told by what holds of a form, for a lump of letters of levels."""
    if not is_root_as_told(left) or not is_root_as_told(right) or (not left and not right and len(middle) < 2):
        return False
    if right and middle and middle[-1] == right[-1] or left and middle and middle[0] == left[0]:
        return False
    if left and right and not middle:
        if left == right:
            turns = [left[k:] + left[:k] for k in range(len(left))]
            return min(" ".join(map(text_as_told, turn)) for turn in turns) == " ".join(map(text_as_told, left))
        return left[-1] != right[-1]
    return True


def level_letter_as_told(value):
    """[7.7], straight from the document, for any value."""
    if type(value) is str:
        return len(value) == 1 and "a" <= value <= "z"
    if type(value) is not tuple or not value or type(value[0]) is not str:
        return False
    if value[0] == "mixture":
        if len(value) != 2 or type(value[1]) is not tuple or not value[1] or not all(map(level_letter_as_told, value[1])):
            return False
        texts = [text_as_told(letter) for letter in value[1]]
        return texts == sorted(set(texts))
    if value[0] != "lump" or len(value) != 4 or any(type(word) is not tuple for word in value[1:]):
        return False
    return all(level_letter_as_told(letter) for word in value[1:] for letter in word) and in_one_form(*value[1:])


def letter_at_number(told, i):
    """The letter number i of three words, 0 being the first one of the middle, or of what is behind it."""
    left, middle, right = told
    if i < 0:
        return left[i % len(left)]
    return middle[i] if i < len(middle) else right[(i - len(middle)) % len(right)]


def tell_the_same(one, other, far=60, by=30):
    """Whether three words tell the same letters in the same order as three others, as far as can be seen."""
    (left, middle, right), (left_too, middle_too, right_too) = one, other
    if (left == ()) != (left_too == ()) or (right == ()) != (right_too == ()):
        return False
    if not left and not right:
        return middle == middle_too
    if not right:
        return all(letter_at_number(one, len(middle) - k) == letter_at_number(other, len(middle_too) - k) for k in range(1, far))
    if not left:
        return all(letter_at_number(one, k) == letter_at_number(other, k) for k in range(far))
    return any(all(letter_at_number(one, k) == letter_at_number(other, k + d) for k in range(-far, far)) for d in range(-by, by + 1))


def told_otherwise(rng, told):
    """Three words for the same letters: unrolled, turned on, or doubled, a few times."""
    left, middle, right = told
    for _ in range(rng.randint(1, 4)):
        way, k = rng.randrange(6), rng.randint(1, 2)
        if way == 0 and right:
            middle = middle + right * k
        elif way == 1 and left:
            middle = left * k + middle
        elif way == 2 and right:
            middle, right = middle + right[:1], right[1:] + right[:1]
        elif way == 3 and left:
            middle, left = left[-1:] + middle, left[-1:] + left[:-1]
        elif way == 4:
            right = right * k
        else:
            left = left * k
    return left, middle, right
