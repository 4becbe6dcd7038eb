"""The words of texts and lines: how they are parted, and the numbers and edges that they tell."""


def words_of(text):
    """The words of a text, without the blanks that part them."""
    # No other white space than the blank parts words.
    return [word for word in text.split(" ") if word]


def number_told(word, least, greatest):
    """The number within these bounds that a word tells; None."""
    # Compared with what is shown: noughts ahead, signs and foreign figures never pass.
    for number in range(least, greatest + 1):
        if str(number) == word:
            return number
    return None


def ends_told(word, greatest):
    """The two unlike numbers from 0 to this one that a word tells with - between, in its order; None."""
    ends = [number_told(part, 0, greatest) for part in word.split("-")]
    if len(ends) != 2 or None in ends or ends[0] == ends[1]:
        return None
    return tuple(ends)


def joined_up(vertices):
    """The vertices of a row with - between."""
    return "-".join([str(vertex) for vertex in vertices])
