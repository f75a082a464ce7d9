"""Items: the parts of families that are put in order.

An item is a tuple (word, number). With the integer number 1 it stands for the letters of its word, of which as many
as possible are in one item; with a Form it is a power of its word. Parts that are not in order yet may also have
other integers: letters that stand so many times.
"""

from stitchsizes.forms import Form


def root_and_times(word):
    """The shortest word of which a word is a repetition, and how often it stands in it."""
    for length in range(1, len(word)):
        times = len(word) // length
        if len(word) == times * length and word[:length] * times == word:
            return (word[:length], times)
    return (word, 1)


def put_in_order(parts):
    """The items of some parts, in order."""
    items = []
    for word, number in parts:
        times = _times_of(number)
        if times is None:
            root, many = root_and_times(word)
            _add_power(items, root, number * many)
        else:
            _add_letters(items, word * times)
    return tuple(items)


def is_power(item):
    """Whether an item is a power."""
    return isinstance(item[1], Form)


def without_common_letters(one, other):
    """How many letters both items begin with in common, and both without them."""
    mine = _letters_ahead(one)
    theirs = _letters_ahead(other)
    common = common_length(mine, theirs)
    return (common, _cut(one, common), _cut(other, common))


def front_of(items, many):
    """The first letters of the front of some items, up to a number of them; fewer if the front ends before."""
    ahead = _letters_ahead(items)
    at = power_position(items)
    if at < len(items) and len(ahead) < many:
        word = items[at][0]
        ahead = ahead + word * ((many - len(ahead)) // len(word) + 1)
    return ahead[:many]


def front_length(items):
    """How many letters the front has up to its end, or up to and including the first word of its power."""
    return sum([len(word) for word, _ in items[:power_position(items) + 1]])


def power_position(items):
    """The position of the first power, or the number of items if there is none."""
    return 1 if items and not is_power(items[0]) else 0


def common_length(one, other):
    """How many letters two words begin with in common."""
    low = 0
    high = min(len(one), len(other))
    # All of one[:low] is known to be common; long words are compared by halves and not letter by letter.
    while low < high:
        middle = (low + high + 1) // 2
        if one[low:middle] == other[low:middle]:
            low = middle
        else:
            high = middle - 1
    return low


def _times_of(number):
    """How often a part stands as letters, or None for a power."""
    if not isinstance(number, Form):
        return number
    if number.is_number and number.constant in (0, 1):
        return number.constant
    return None


def _add_letters(items, letters):
    if not letters:
        return
    if items and not is_power(items[-1]):
        ahead = items.pop()
        letters = ahead[0] + letters
    items.append((letters, 1))


def _add_power(items, word, form):
    """Puts a power behind items, with the letters that can be moved to behind it."""
    behind = ()
    if items and not is_power(items[-1]):
        ahead = items.pop()
        stay = len(ahead[0]) - _moving(ahead[0], word)
        behind = ahead[0][stay:]
        _add_letters(items, ahead[0][:stay])
    begin = len(word) - len(behind) % len(word)
    word = word[begin:] + word[:begin]
    if items and is_power(items[-1]) and items[-1][0] == word:
        before = items.pop()
        form = before[1] + form
    times = _times_of(form)
    if times is None:
        items.append((word, form))
    else:
        _add_letters(items, word * times)
    _add_letters(items, behind)


def _moving(letters, word):
    """How many letters ahead of a power are moved to behind it, one after the other."""
    moved = 0
    while moved < len(letters) and letters[-1 - moved] == word[-1 - moved % len(word)]:
        moved = moved + 1
    return moved


def _letters_ahead(items):
    """The letters with which items begin."""
    if not items or is_power(items[0]):
        return ()
    return items[0][0]


def _cut(items, many):
    """Items without so many of the letters with which they begin."""
    if many == 0:
        return items
    rest = items[0][0][many:]
    return (((rest, 1),) if rest else ()) + items[1:]
