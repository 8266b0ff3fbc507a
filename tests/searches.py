"""Slow searches for rules, completions, worlds, derivations and texts, that follow the words of DOC.md directly.

They use nothing of the program, so that a fault of the program is not a fault of both.
"""

import itertools

from tests.helpers import (SYMBOLS, alike_by_words, answers_by_words, at, every_place, least_by_search,
                           least_form_by_search, matches_by_search, occurrences, put_in)


def put_at(term, place, new):
    """Return the term with another part at the place."""
    if place == ():
        return new
    arguments = list(term[1:])
    arguments[place[0]] = put_at(arguments[place[0]], place[1:], new)
    return (term[0], *arguments)


def inner_places(term):
    """Return the places of the term at which the part is not a variable, in order."""
    return [place for place in every_place(term) if not isinstance(at(term, place), str)]


def steps_by_search(pairs, term, symbols=SYMBOLS):
    """Return all steps of the term by the rules, as point 44 tells them."""
    found = []
    for place in inner_places(term):
        part = at(term, place)
        for index, (left, right) in enumerate(pairs):
            if left[0] == part[0]:
                for filling in matches_by_search((left,), (part,), symbols):
                    found.append((place, index, filling, put_at(term, place, put_in(right, dict(filling)))))
    return tuple(found)


def run_by_search(pairs, term, symbols=SYMBOLS):
    """Return the terms of the run from the term."""
    run = [term]
    steps = steps_by_search(pairs, term, symbols)
    while steps:
        run.append(steps[0][3])
        steps = steps_by_search(pairs, run[-1], symbols)
    return tuple(run)


def end_by_search(pairs, term, symbols=SYMBOLS):
    """Return the least writing of the end of the run."""
    return least_by_search(run_by_search(pairs, term, symbols)[-1], symbols)


def all_ends(pairs, term, symbols=SYMBOLS):
    """Return the least writings of all ends to which steps lead, taken in any way."""
    waiting, seen, ends = [least_by_search(term, symbols)], set(), set()
    while waiting:
        now = waiting.pop()
        if now not in seen:
            seen.add(now)
            nexts = [least_by_search(step[3], symbols) for step in steps_by_search(pairs, now, symbols)]
            waiting += nexts
            ends |= set() if nexts else {now}
    return ends


def with_letter(pair, letter):
    """Return the pair with this letter before the name of each variable."""
    return tuple(put_in(side, {name: letter + name for name in occurrences(side)}) for side in pair)


def meetings_by_search(pairs):
    """Return all meetings of the rules, as point 45 tells them."""
    found = []
    for i, rule in enumerate(pairs):
        left, right = with_letter(rule, "L")
        for place in inner_places(left):
            for j, other in enumerate(pairs):
                other_left, other_right = with_letter(other, "R")
                row = (left, right, put_at(left, place, other_right))
                rows = answers_by_words(row, [(at(left, place), other_left)])
                found += [(i, place, j, *row) for row in least_form_by_search(rows)
                          if not alike_by_words(row[1], row[2])]
    return tuple(found)


def falling_by_words(compare, pair):
    """Return the pair with its greater side first, or None."""
    found = compare(*pair)
    return {"greater": pair, "less": pair[::-1]}.get(found)


def made_by_words(compare, state, line):
    """Return the state (rules, equations) that the line makes, by the table of point 47, or None."""
    rules, equations = state
    if len(line) != 2 or line[1] < 0:
        return None
    word, k = line
    if word in ("drop", "reduce", "orient"):
        if k >= len(equations):
            return None
        pair, rest = equations[k], equations[:k] + equations[k + 1:]
        if word == "drop":
            return (rules, rest) if alike_by_words(*pair) else None
        if word == "reduce":
            ends = tuple(end_by_search(rules, side) for side in pair)
            return rules, equations[:k] + (ends,) + equations[k + 1:]
        rule = falling_by_words(compare, pair)
        fits = rule and not any(steps_by_search(rules, side) for side in pair)
        return (rules + (rule,), rest) if fits else None
    if word == "meet":
        meetings = meetings_by_search(rules)
        return (rules, equations + (meetings[k][4:],)) if k < len(meetings) else None
    if word not in ("retire", "shorten") or k >= len(rules):
        return None
    (left, right), others = rules[k], rules[:k] + rules[k + 1:]
    if word == "retire":
        return (others, equations + (rules[k],)) if steps_by_search(others, left) else None
    return rules[:k] + ((left, end_by_search(rules, right)),) + rules[k + 1:], equations


def is_term_by_words(value, symbols=SYMBOLS):
    """Tell whether the value is a term."""
    if isinstance(value, str):
        return 1 <= len(value) <= 6 and "A" <= value[0] <= "Z" and all("0" <= sign <= "9" for sign in value[1:])
    if not isinstance(value, tuple) or not value:
        return False
    arities = [arity for name, arity, _ in symbols if name == value[0]]
    return arities == [len(value) - 1] and all(is_term_by_words(part, symbols) for part in value[1:])


def concluded_by_words(axioms, before, line, symbols=SYMBOLS):
    """Return what the line concludes behind these conclusions, by the table of point 53, or None if it is bad."""
    def is_index(value, items):
        return isinstance(value, int) and 0 <= value < len(items)

    word, *items = line
    names = {name: (arity, two_way) for name, arity, two_way in symbols}
    if word == "axiom" and len(items) == 1 and is_index(items[0], axioms):
        return axioms[items[0]]
    if word == "same" and len(items) == 1 and is_term_by_words(items[0], symbols):
        return items[0], items[0]
    if word == "turn" and len(items) == 3 and names.get(items[0]) == (2, True):
        name, one, two = items
        if is_term_by_words(one, symbols) and is_term_by_words(two, symbols):
            return (name, one, two), (name, two, one)
    if word == "back" and len(items) == 1 and is_index(items[0], before):
        return before[items[0]][::-1]
    if word == "chain" and len(items) == 2 and all(is_index(k, before) for k in items):
        (one, middle), (other, two) = [before[k] for k in items]
        return (one, two) if middle == other else None
    if word == "within" and items and items[0] in names and names[items[0]][0] == len(items) - 1:
        if all(is_index(k, before) for k in items[1:]):
            return tuple((items[0], *[before[k][side] for k in items[1:]]) for side in (0, 1))
    if word == "fill" and len(items) == 2 and is_index(items[0], before) and isinstance(items[1], tuple):
        return tuple(put_in(side, dict(items[1])) for side in before[items[0]])
    return None


def conclusions_by_words(axioms, lines, symbols=SYMBOLS):
    """Return the conclusions of the lines; None stands for the first bad line and for all behind it."""
    before = []
    for line in lines:
        pair = None if None in before else concluded_by_words(axioms, before, line, symbols)
        before.append(pair)
    return tuple(before)


def value_by_words(symbols, size, tables, term, values):
    """Return the thing that the term stands for; the values are a dict."""
    if isinstance(term, str):
        return values[term]
    arguments = [value_by_words(symbols, size, tables, part, values) for part in term[1:]]
    table = tables[[name for name, _, _ in symbols].index(term[0])]
    return table[{0: lambda: 0, 1: lambda x: x, 2: lambda x, y: x * size + y}[len(arguments)](*arguments)]


def counters_by_words(symbols, size, tables, pair):
    """Return all values for which the sides of the pair differ, as tuples of pairs, in order."""
    names = sorted({name for side in pair for name in occurrences(side)}, key=lambda name: (len(name), name))
    found = []
    for things in itertools.product(range(size), repeat=len(names)):
        values = dict(zip(names, things))
        one, two = [value_by_words(symbols, size, tables, side, values) for side in pair]
        if one != two:
            found.append(tuple(zip(names, things)))
    return found


def text_by_words(term):
    """Return the text of the term."""
    if isinstance(term, str) or len(term) == 1:
        return term if isinstance(term, str) else term[0]
    return f"{term[0]}({', '.join(text_by_words(part) for part in term[1:])})"


def choices_for(item, symbols):
    """Return what an item of a grammar of texts may be replaced by; a string of one character stands for itself."""
    if item == "digits":
        return [()] + [(digit,) for digit in "0123456789"]
    if item == "term":
        found = [(letter,) + ("digits",) * 5 for letter in "ABCDEFGHIJKLMNOPQRSTUVWXYZ"]
        for name, arity, _ in symbols:
            brackets = [(), ("(", "term", ")"), ("(", "term", ",", " ", "term", ")")]
            found.append(tuple(name) + brackets[arity])
        return found
    pair = (" ", "term", " ", "=", " ", "term", "more pairs")
    return [(), pair if item == "pairs" else (";",) + pair]


def expanded(stack, symbols):
    """Return all stacks that begin with a character, or are empty, into which the stack may be expanded."""
    if not stack or len(stack[0]) == 1:
        return [stack]
    return [found for choice in choices_for(stack[0], symbols) for found in expanded(choice + stack[1:], symbols)]


def read_by_words(stacks, text, symbols):
    """Return how many characters of the text can be read, and whether all are and nothing is missing behind them."""
    now = {found for stack in stacks for found in expanded(stack, symbols)}
    for column, sign in enumerate(text):
        behind = {stack[1:] for stack in now if stack and stack[0] == sign}
        if not behind:
            return column, False
        now = {found for stack in behind for found in expanded(stack, symbols)}
    return len(text), () in now


def term_text_by_words(text, symbols=SYMBOLS):
    """Return the length of the longest beginning of a text of a term, and whether the text is one."""
    return read_by_words([("term",)], text, symbols)


def are_asked(text):
    """Tell whether the text consists of 1 to 4 different variables, with a comma and a space between them."""
    names = text.split(", ")
    return len(names) <= 4 and len(set(names)) == len(names) and all(is_term_by_words(name, ()) for name in names)


def begins_asked(text):
    """Tell whether the text is a beginning of one that are_asked accepts."""
    behind = ["", *"0123456789", *[start + letter for start in ("", " ", ", ") for letter in "ABCDE"]]
    return any(are_asked(text + more) for more in behind)


def wishes_text_by_words(text, symbols=SYMBOLS):
    """Return the length of the longest beginning of a text of wishes, and whether the text is one."""
    asked, colon, pairs = text.partition(":")
    if colon and are_asked(asked):
        column, is_whole = read_by_words([("pairs",)], pairs, symbols)
        return len(asked) + 1 + column, is_whole
    return max(many for many in range(len(asked) + 1) if begins_asked(asked[:many])), False


def equal_by_search(equations, one, two, symbols=SYMBOLS):
    """Tell whether two terms are equal by closed equations; their variables stay as they are.

    All parts are put into classes, and classes are joined as long as two parts tell that they must be.
    """
    terms = [one, two, *[side for pair in equations for side in pair]]
    parts = {least_by_search(at(term, place), symbols) for term in terms for place in every_place(term)}
    names = {part: part for part in parts}

    def join(x, y):
        old, new = names[x], names[y]
        for part in parts:
            names[part] = new if names[part] == old else names[part]

    def fits(x, y):
        if isinstance(x, str) or isinstance(y, str) or x[0] != y[0]:
            return False
        ones = [names[least_by_search(part, symbols)] for part in x[1:]]
        twos = [names[least_by_search(part, symbols)] for part in y[1:]]
        return ones == twos or (x[0] in [name for name, _, two_way in symbols if two_way] and ones == twos[::-1])

    for x, y in equations:
        join(least_by_search(x, symbols), least_by_search(y, symbols))
    found = True
    while found:
        found = [(x, y) for x, y in itertools.combinations(sorted(parts, key=repr), 2)
                 if names[x] != names[y] and fits(x, y)]
        for x, y in found:
            join(x, y)
    return names[least_by_search(one, symbols)] == names[least_by_search(two, symbols)]


def things_said(terms, symbols=SYMBOLS):
    """Return the parts of the terms; those that are alike count once."""
    return {least_by_search(at(term, place), symbols) for term in terms for place in every_place(term)}
