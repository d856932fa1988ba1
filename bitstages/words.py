"""The words of texts: numbers, and numbers that are joined by a sign."""

MOST_DIGITS = 20


def number_in(word):
    """Return the number that a word is, None if it is none."""
    if not word.isascii() or not word.isdigit() or len(word) > MOST_DIGITS:
        return None
    if word.startswith("0") and len(word) > 1:
        return None
    return int(word)


def numbers_in(word, sign):
    """Return the list of the numbers that a word has between signs, None if one is none."""
    numbers = [number_in(part) for part in word.split(sign)]
    if None in numbers:
        return None
    return numbers


def words_in(text):
    """Return the list of what stands between single spaces; the empty string has no words."""
    if text == "":
        return []
    return text.split(" ")


def stage_in(word):
    """Return the tuple of three numbers that a word tells as a stage, None if it does not."""
    numbers = numbers_in(word, ":")
    if numbers is None or len(numbers) != 3:
        return None
    return tuple(numbers)


def run_text(run):
    """Return the text of a run that was checked."""
    return " ".join([":".join([str(number) for number in stage]) for stage in run])


def mapping_text(mapping):
    """Return the text of a mapping that was checked."""
    rows, offset = mapping
    return ",".join([str(row) for row in rows]) + f" {offset}"
