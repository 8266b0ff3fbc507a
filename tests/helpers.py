"""What several tests need: terms to try, and slow searches that follow the words of DOC.md directly.

The searches use nothing of the program, so that a fault of the program is not a fault of both.
"""

import functools
import itertools
import random
import unittest

SYMBOLS = [("a", 0, False), ("b", 0, False), ("f", 2, True), ("g", 1, False), ("p", 2, False)]
TWO_SIGNS = [("a", 0, False), ("f", 2, True), ("h", 2, True), ("c", 0, False)]


class Case(unittest.TestCase):
    """A test case that looks at errors with their fields and at kinds of sequences."""

    def raises(self, error, fields, function, *args, **keywords):
        """Check that the call raises just this error with these fields."""
        with self.assertRaises(error) as caught:
            function(*args, **keywords)
        self.assertIs(error, caught.exception.__class__)
        for name, value in fields.items():
            self.assertEqual(value, getattr(caught.exception, name))
            self.assertIs(value.__class__, getattr(caught.exception, name).__class__)

    def same(self, expected, value):
        """Check that the values are equal and that every sequence in them is a tuple."""
        self.assertEqual(expected, value)
        self.only_tuples(value)

    def only_tuples(self, value):
        """Check that the value consists of tuples, strings, whole numbers and truth values."""
        self.assertIn(value.__class__, (tuple, str, int, bool))
        if value.__class__ is tuple:
            for item in value:
                self.only_tuples(item)


def comb(name, leaves):
    """Return the term that joins the leaves by applications of a symbol, nested to the right."""
    term = leaves[-1]
    for leaf in reversed(leaves[:-1]):
        term = (name, leaf, term)
    return term


def balanced(name, leaves):
    """Return the term that joins the leaves by applications of a symbol, as evenly as it can be."""
    if len(leaves) == 1:
        return leaves[0]
    half = len(leaves) // 2
    return (name, balanced(name, leaves[:half]), balanced(name, leaves[half:]))


def tower(depth, leaf="X", name="g"):
    """Return a term nested as deep as the number says."""
    for _ in range(depth):
        leaf = (name, leaf)
    return leaf


def random_term(rng, size, variables=("X", "Y", "Z"), symbols=SYMBOLS):
    """Return a random term of about this size."""
    arities = {}
    for name, arity, _ in symbols:
        arities.setdefault(arity, []).append(name)
    if size >= 3 and 2 in arities and (1 not in arities or rng.random() < 0.75):
        left = rng.randint(1, size - 2)
        one = random_term(rng, left, variables, symbols)
        two = random_term(rng, size - 1 - left, variables, symbols)
        return (rng.choice(arities[2]), one, two)
    if size >= 2 and 1 in arities:
        return (rng.choice(arities[1]), random_term(rng, size - 1, variables, symbols))
    return rng.choice([(name,) for name in arities.get(0, [])] + list(variables))


def random_terms(seed, count, largest, variables=("X", "Y", "Z"), symbols=SYMBOLS):
    """Return random terms, the same ones for the same seed."""
    rng = random.Random(seed)
    return [random_term(rng, rng.randint(1, largest), variables, symbols) for _ in range(count)]


def all_terms(largest, leaves, symbols=SYMBOLS):
    """Return all terms up to this size, with variables and constants only from the leaves."""
    by_size = {1: list(leaves)}
    for size in range(2, largest + 1):
        by_size[size] = []
        for name, arity, _ in symbols:
            if arity == 1:
                by_size[size] += [(name, one) for one in by_size[size - 1]]
            if arity == 2:
                for left in range(1, size - 1):
                    by_size[size] += [(name, one, two) for one in by_size[left] for two in by_size[size - 1 - left]]
    return [term for size in sorted(by_size) for term in by_size[size]]


def two_way_names(symbols=SYMBOLS):
    """Return the names of the two-way symbols."""
    return [name for name, _, two_way in symbols if two_way]


def every_place(term):
    """Return all places of the term, sorted as tuples."""
    if isinstance(term, str):
        return [()]
    return sorted([()] + [(k,) + place for k in range(len(term) - 1) for place in every_place(term[k + 1])])


def at(term, place):
    """Return the part at the place."""
    return term if place == () else at(term[place[0] + 1], place[1:])


def exchanged(term, places, here=()):
    """Return the term with the arguments exchanged at the places, which are places of the given term."""
    if isinstance(term, str):
        return term
    arguments = [exchanged(part, places, here + (k,)) for k, part in enumerate(term[1:])]
    if here in places:
        arguments.reverse()
    return (term[0], *arguments)


def meeting_places(term, symbols=SYMBOLS):
    """Return the two-way places of the term, in order."""
    names = two_way_names(symbols)
    parts = [(place, at(term, place)) for place in every_place(term)]
    return [place for place, part in parts if not isinstance(part, str) and part[0] in names]


def subsets(items):
    """Return all subsets of the items, each as a tuple in their order."""
    return [chosen for many in range(len(items) + 1) for chosen in itertools.combinations(items, many)]


def turnings_by_search(term, symbols=SYMBOLS):
    """Return all turnings of the term, each once."""
    return list(dict.fromkeys(exchanged(term, places) for places in subsets(meeting_places(term, symbols))))


def alike_by_words(one, two, symbols=SYMBOLS):
    """Tell whether two terms are alike, by following both at once."""
    if isinstance(one, str) or isinstance(two, str) or one[0] != two[0]:
        return one == two
    orders = [two[1:]] + ([two[:0:-1]] if one[0] in two_way_names(symbols) else [])
    return any(all(alike_by_words(x, y, symbols) for x, y in zip(one[1:], order)) for order in orders)


def compare_variables(one, two):
    """Compare two variables: -1, 0 or 1."""
    if len(one) != len(two):
        return -1 if len(one) < len(two) else 1
    return (one > two) - (one < two)


def compare_terms(one, two, symbols=SYMBOLS):
    """Compare two terms in the order of terms: -1, 0 or 1."""
    if isinstance(one, str) and isinstance(two, str):
        return compare_variables(one, two)
    if isinstance(one, str) or isinstance(two, str):
        return -1 if isinstance(one, str) else 1
    names = [name for name, _, _ in symbols]
    if one[0] != two[0]:
        return -1 if names.index(one[0]) < names.index(two[0]) else 1
    return compare_rows(one[1:], two[1:], symbols)


def compare_rows(one, two, symbols=SYMBOLS):
    """Compare two rows of the same width in the order of rows: -1, 0 or 1."""
    for x, y in zip(one, two):
        found = compare_terms(x, y, symbols)
        if found:
            return found
    return 0


def sorted_terms(terms, symbols=SYMBOLS):
    """Return the terms in the order of terms."""
    return sorted(terms, key=functools.cmp_to_key(lambda one, two: compare_terms(one, two, symbols)))


def sorted_rows(rows, symbols=SYMBOLS):
    """Return the rows in the order of rows."""
    return sorted(rows, key=functools.cmp_to_key(lambda one, two: compare_rows(one, two, symbols)))


def occurrences(term):
    """Return all occurrences of variables from left to right."""
    return [term] if isinstance(term, str) else [name for part in term[1:] for name in occurrences(part)]


def size(term):
    """Return the size of the term."""
    return 1 if isinstance(term, str) else 1 + sum(size(part) for part in term[1:])


def put_in(term, table):
    """Return the term with variables replaced by a dict, all at once."""
    if isinstance(term, str):
        return table.get(term, term)
    return (term[0], *[put_in(part, table) for part in term[1:]])


def match_exactly(pattern, term, table):
    """Return the dict that makes the pattern this very term, without any turning, or None."""
    if isinstance(pattern, str):
        if pattern in table:
            return table if table[pattern] == term else None
        return {**table, pattern: term}
    if isinstance(term, str) or pattern[0] != term[0]:
        return None
    for one, two in zip(pattern[1:], term[1:]):
        table = match_exactly(one, two, table)
        if table is None:
            return None
    return table


def least_by_search(term, symbols=SYMBOLS):
    """Return the least writing of the term, from the list of all its turnings."""
    return sorted_terms(turnings_by_search(term, symbols), symbols)[0]


def matches_by_search(pattern, row, symbols=SYMBOLS):
    """Return all fillings for the pattern, sorted as DOC.md says, by a search through all turnings of the row.

    Parts that are alike have the same turnings, so one of the turnings of the row has them equal.
    """
    names = sorted({name for term in pattern for name in occurrences(term)}, key=lambda name: (len(name), name))
    found = {}
    for turned_row in itertools.product(*[turnings_by_search(term, symbols) for term in row]):
        table = {}
        for one, two in zip(pattern, turned_row):
            table = None if table is None else match_exactly(one, two, table)
        if table is not None:
            found[tuple(least_by_search(table[name], symbols) for name in names)] = True
    return tuple(tuple(zip(names, values)) for values in sorted_rows(found, symbols))


def is_case_by_search(row, pattern, symbols=SYMBOLS):
    """Tell whether the row is a case of the pattern."""
    return len(row) == len(pattern) and len(matches_by_search(pattern, row, symbols)) > 0


def renamed_in_order(row):
    """Return the row with its variables called V1, V2 and so on by first occurrences."""
    table = {}
    for term in row:
        for name in occurrences(term):
            table.setdefault(name, f"V{len(table) + 1}")
    return tuple(put_in(term, table) for term in row)


def least_telling_by_search(row, symbols=SYMBOLS):
    """Return the least telling of the row, from the list of all its tellings."""
    tellings = [renamed_in_order(turned_row)
                for turned_row in itertools.product(*[turnings_by_search(term, symbols) for term in row])]

    def skeleton(told):
        return tuple(put_in(term, {name: "V0" for name in occurrences(term)}) for term in told)

    def numbers(told):
        return [int(name[1:]) for term in told for name in occurrences(term)]

    def compare(one, two):
        by_skeleton = compare_rows(skeleton(one), skeleton(two), symbols)
        return by_skeleton or (numbers(one) > numbers(two)) - (numbers(one) < numbers(two))

    return min(tellings, key=functools.cmp_to_key(compare))


def lines_that_fit(pending):
    """Return all lines that may be applied, by the table of point 21."""
    if not pending:
        return [("answer",)]
    lines = []
    for k, (one, two) in enumerate(pending):
        if alike_by_words(one, two):
            lines.append(("drop", k))
        if not isinstance(one, str) and not isinstance(two, str):
            kind = "clash" if one[0] != two[0] else "turn" if one[0] in two_way_names() else "split"
            lines.append((kind, k))
        for side, (variable, other) in enumerate([(one, two), (two, one)]):
            if isinstance(variable, str) and variable not in occurrences(other):
                lines.append(("bind", k, side))
            elif isinstance(variable, str) and not isinstance(other, str):
                lines.append(("loop", k))
    return lines


def made_states(state, line):
    """Return the states that a fitting line makes, by the table of point 21."""
    pending, row = state
    if line[0] in ("answer", "clash", "loop"):
        return []
    one, two = pending[line[1]]
    before, behind = pending[:line[1]], pending[line[1] + 1:]
    if line[0] == "drop":
        return [(before + behind, row)]
    if line[0] == "bind":
        table = {(one, two)[line[2]]: (one, two)[1 - line[2]]}
        return [([(put_in(x, table), put_in(y, table)) for x, y in before + behind], [put_in(x, table) for x in row])]
    orders = [two[1:]] + ([two[:0:-1]] if line[0] == "turn" else [])
    return [(before + list(zip(one[1:], order)) + behind, row) for order in orders]


def answers_by_words(asked, pairs):
    """Return the answers of a tree for the wishes, made by the table of point 21."""
    states, answers = [(list(pairs), list(asked))], []
    while states:
        state = states.pop()
        lines = lines_that_fit(state[0])
        line = next((line for line in lines if line[0] in ("clash", "loop")), lines[0])
        if line == ("answer",):
            answers.append(tuple(state[1]))
        states += made_states(state, line)
    return answers


def meets_by_words(asked, pairs, row):
    """Tell whether the row meets the wishes, by putting it in as wishes of its own.

    Its variables become constants that occur nowhere else, since they are not replaced.
    """
    frozen = [put_in(term, {name: (f"k{name}",) for name in occurrences(term)}) for term in row]
    return len(row) == len(asked) and len(answers_by_words(asked, [*pairs, *zip(asked, frozen)])) > 0


def least_form_by_search(rows, symbols=SYMBOLS):
    """Return the rows of the book of all cases of the rows, as DOC.md describes its least form."""
    told = sorted_rows({least_telling_by_search(row, symbols) for row in rows}, symbols)
    return tuple(row for row in told
                 if not any(is_case_by_search(row, other, symbols) for other in told if other != row))
