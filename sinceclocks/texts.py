"""Rows and machines written as lines of words, and read again."""

from sinceclocks.checks import is_letter, is_letters
from sinceclocks.errors import NoText
from sinceclocks.machines import check_machine, is_machine
from sinceclocks.rows import check_row, is_row

MOST_FIGURES = 30
# the words of the ends of a limit, plain and sharp
LEAST_WORDS = ("from", "over")
MOST_WORDS = ("to", "under")


def row_text(row):
    """The lines of the row: its grain, then its events."""
    check_row(row)
    grain, events = row
    return "\n".join([f"grain {grain}"] + [f"{letter} {time}" for letter, time in events])


def machine_text(machine):
    """The lines of the machine: letters, states, starts and ends, then its steps."""
    check_machine(machine)
    letters, many, starts, ends, steps = machine
    lines = [f"letters {letters}", f"states {many}", numbers_line("starts", starts), numbers_line("ends", ends)]
    return "\n".join(lines + [step_line(step) for step in steps])


def numbers_line(word, numbers):
    """The line of the word and the numbers."""
    return " ".join([word] + [str(number) for number in numbers])


def step_line(step):
    """The line of the step."""
    s, a, limits, t = step
    return " ".join([f"step {s} {a} {t}"] + [limit_word(limit) for limit in limits])


def limit_word(limit):
    """The word of the limit."""
    x, least, most = limit
    name = "." if x == "" else x
    if least is None:
        return f"{name}never"
    return name + end_word(least, LEAST_WORDS) + ("" if most is None else end_word(most, MOST_WORDS))


def end_word(end, words):
    """The end of a limit as part of a word; words are the plain and the sharp one."""
    units, sharp = end
    return words[1 if sharp else 0] + str(units)


def read_row(text):
    """The row that the text writes."""
    lines = lines_of(text)
    parts = [read_event(words) if k > 0 else read_count(words, "grain") for k, words in enumerate(lines)]
    check_parts(parts)
    row = (parts[0], tuple(parts[1:]))
    if not is_row(row):
        raise NoText(len(lines) + 1)
    return row


def read_machine(text):
    """The machine that the text writes."""
    lines = lines_of(text)
    parts = [read_part(words, k) for k, words in enumerate(lines)]
    check_parts(parts)
    # with lines missing this is too short to be a machine
    machine = tuple(parts[:4]) + (tuple(parts[4:]),)
    if not is_machine(machine):
        raise NoText(len(lines) + 1)
    return machine


def lines_of(text):
    """The lines of the text, each as a list of words; words are empty where a space is doubled or at an end."""
    if not isinstance(text, str):
        raise NoText(1)
    return [line.split(" ") for line in text.split("\n")]


def check_parts(parts):
    """Raises NoText if one of the parts, one for each line, is None: the line cannot stand."""
    if None in parts:
        raise NoText(parts.index(None) + 1)


def read_part(words, k):
    """What the words of line number k, from 0, of a machine write, or None."""
    if k == 0:
        return words[1] if len(words) == 2 and words[0] == "letters" and is_letters(words[1]) else None
    if k == 1:
        return read_count(words, "states")
    if k == 2:
        return read_numbers(words, "starts")
    if k == 3:
        return read_numbers(words, "ends")
    return read_step(words)


def read_count(words, first):
    """The one number behind the first word, or None."""
    numbers = read_numbers(words, first)
    return None if numbers is None or len(numbers) != 1 else numbers[0]


def read_numbers(words, first):
    """The tuple of the numbers behind the first word, or None."""
    numbers = [read_number(word) for word in words[1:]]
    return None if words[0] != first or None in numbers else tuple(numbers)


def read_number(word):
    """The number that the word writes, or None."""
    if not (1 <= len(word) <= MOST_FIGURES and all(["0" <= sign <= "9" for sign in word])):
        return None
    return None if word[0] == "0" and word != "0" else int(word)


def read_event(words):
    """The event that the words write, or None."""
    if len(words) != 2:
        return None
    letter, time = words[0], read_number(words[1])
    return (letter, time) if is_letter(letter) and time is not None else None


def read_step(words):
    """The step that the words write, or None."""
    if len(words) < 4 or words[0] != "step":
        return None
    s, a, t = read_number(words[1]), words[2], read_number(words[3])
    limits = [read_limit(word) for word in words[4:]]
    if s is None or t is None or not is_letter(a) or None in limits:
        return None
    return (s, a, tuple(limits), t)


def read_limit(word):
    """The limit that the word writes, or None."""
    name, ends = word[:1], word[1:]
    if not (is_letter(name) or name == "."):
        return None
    if ends == "never":
        return None if name == "." else (name, None, None)
    low, high = parted_ends(ends)
    least, most = read_end(low, LEAST_WORDS), read_end(high, MOST_WORDS)
    if least is None or (high != "" and most is None):
        return None
    return ("" if name == "." else name, least, most)


def parted_ends(ends):
    """The ends of a limit, one word, as the word of the least and that of the most, which is empty if there is none."""
    for word in MOST_WORDS:
        at = ends.find(word)
        if at >= 0:
            return ends[:at], ends[at:]
    return ends, ""


def read_end(text, words):
    """The end of a limit that the text writes, or None; words are the plain and the sharp one."""
    for word in words:
        if text.startswith(word):
            units = read_number(text[len(word):])
            return None if units is None else (units, word == words[1])
    return None
