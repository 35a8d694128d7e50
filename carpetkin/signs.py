"""Runs of signs in a text, numbers in figures, small words: what all readers of texts need."""

MOST_FIGURES = 4
LONGEST_WORD = 8


def run_end(text, at, first, last):
    end = at
    while end < len(text) and first <= text[end] <= last:
        end += 1
    return end


def letters_end(text, at):
    return run_end(text, at, "a", "z")


def figures_end(text, at):
    return run_end(text, at, "0", "9")


def number_in(word):
    if not 1 <= len(word) <= MOST_FIGURES or figures_end(word, 0) != len(word):
        return None
    if word[0] == "0" and len(word) > 1:
        return None
    return int(word)


def number_between(word, least, most):
    number = number_in(word)
    if number is None or not least <= number <= most:
        return None
    return number


def is_small_word(word):
    return 1 <= len(word) <= LONGEST_WORD and letters_end(word, 0) == len(word)
