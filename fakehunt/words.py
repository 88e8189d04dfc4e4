"""The words of a text: names, numbers and places."""

from fakehunt.numbers import around

LETTERS = "abcdefghijklmnopqrstuvwxyz"
FIGURES = "0123456789"


def is_made_of(word, signs, most):
    return 1 <= len(word) <= most and all([sign in signs for sign in word])


def is_name(word):
    return is_made_of(word, LETTERS, 8)


def are_figures(word, most):
    # A nought stands ahead of nothing: 0 itself is the only word that begins with one.
    return is_made_of(word, FIGURES, most) and (word == "0" or word[0] != "0")


def number_in(word):
    figures = word[1:] if word.startswith("-") else word
    if word == "-0" or not are_figures(figures, 10):
        return None
    number = int(word)
    return number if around(number) == number else None


def place_in(word):
    return int(word) if are_figures(word, 2) else None
