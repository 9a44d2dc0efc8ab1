"""Texts of webs, lists of numbers, turns and rules, written and read back."""

from tierounds.errors import NoRound, NoRules, NoText, NoTurn
from tierounds.following import look_like_rules
from tierounds.webs import check_web, is_from_0, is_web

FIGURES = "0123456789"
MOST_NUMBERS = 40


def are_numbers(thing):
    """Whether it is a list of whole numbers from 0 on, no more than are written."""
    return isinstance(thing, list) and len(thing) <= MOST_NUMBERS and all(is_from_0(number) for number in thing)


def tie_words(ties):
    """A word for each of the ties."""
    return [f"{a}>{b}" for a, b in ties]


def text_of_words(words):
    """The words with blanks between them, or what stands for none."""
    return " ".join(words) if words else "-"


def web_text(web):
    """The web, written."""
    check_web(web)
    return " ".join([str(web[0])] + tie_words(web[1]))


def list_text(numbers):
    """The list of numbers, written."""
    if not are_numbers(numbers):
        raise NoRound("this is no list of numbers that is written")
    return text_of_words([str(number) for number in numbers])


def turn_text(turn):
    """The turn, written."""
    if not isinstance(turn, tuple) or len(turn) != 4 or not all(is_from_0(bound) for bound in turn):
        raise NoTurn("this is no turn that is written")
    i, j, k, l = turn
    return f"{i}-{j} {k}-{l}"


def rules_text(rules):
    """The rules, written."""
    if not look_like_rules(rules):
        raise NoRules("this is no rules that are written")
    held, barred = rules
    return text_of_words([f"{a}+{b}" for a, b in held] + [f"{a}!{b}" for a, b in barred])


def is_number_word(word):
    """Whether it is figures, without a 0 ahead but 0 itself."""
    return word == "0" or (word != "" and word[0] != "0" and all(sign in FIGURES for sign in word))


def read_number(word):
    """The number that the word writes."""
    if not is_number_word(word):
        raise NoText("this writes no number")
    number = 0
    # Figure by figure: of a word of some thousands int would tell an error of its own.
    for sign in word:
        number = number * 10 + FIGURES.index(sign)
    return number


def read_pair(word, between):
    """The two numbers that the word writes, with this sign between them."""
    parts = word.split(between)
    if len(parts) != 2:
        raise NoText("this writes no two numbers")
    return (read_number(parts[0]), read_number(parts[1]))


def words_of(text):
    """The words of the text, between single blanks."""
    if not isinstance(text, str):
        raise NoText("this is no text")
    return text.split(" ")


def words_or_none(text):
    """The words of the text, none of what stands for none."""
    words = words_of(text)
    return [] if words == ["-"] else words


def read_web(text):
    """The web that the text writes."""
    words = words_of(text)
    web = (read_number(words[0]), [read_pair(word, ">") for word in words[1:]])
    if not is_web(web):
        raise NoText("this writes no web")
    return web


def read_list(text):
    """The list of numbers that the text writes."""
    numbers = [read_number(word) for word in words_or_none(text)]
    if not are_numbers(numbers):
        raise NoText("this writes more numbers than a list has")
    return numbers


def read_turn(text):
    """The turn that the text writes."""
    words = words_of(text)
    if len(words) != 2:
        raise NoText("this writes no turn")
    return read_pair(words[0], "-") + read_pair(words[1], "-")


def read_rules(text):
    """The rules that the text writes."""
    words = words_or_none(text)
    held = [read_pair(word, "+") for word in words if "+" in word]
    barred = [read_pair(word, "!") for word in words if "+" not in word]
    rules = (held, barred)
    # Written again a held rule that stood behind a barred one stands elsewhere.
    if not look_like_rules(rules) or rules_text(rules) != text:
        raise NoText("this writes no rules")
    return rules
