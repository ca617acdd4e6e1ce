"""Papers: the texts of a store and a row of books."""

from fillbooks.books import (MOST_BOOKS, MOST_FACTS, MOST_HEADS_OF_A_BOOK, check_row, check_store, is_fact,
                             unlike_facts)
from fillbooks.errors import InvalidLine, InvalidRule, InvalidText
from fillbooks.texts import read_any_term, read_rule, text_of, text_of_rule


def paper_text(store, books):
    """Return the text of a store and a row of books."""
    check_store(store)
    check_row(books)
    lines = ["fact " + text_of(fact) for fact in unlike_facts(store)]
    for book in books:
        lines.append("book")
        lines.extend(["rule " + text_of_rule(rule) for rule in book])
    return "".join([line + "\n" for line in lines])


def read_paper(text):
    """Return the store and the row of books of a text; raise InvalidLine with the first wrong line and its reason."""
    if not isinstance(text, str):
        raise InvalidLine(0, "text")
    facts, books = [], []
    lines = text.split("\n")
    for at, line in enumerate(lines):
        word, _, rest = line.strip(" ").partition(" ")
        if word == "fact" and not books:
            facts.append(_one_more_fact(rest, facts, at))
        elif word == "book" and rest == "":
            if len(books) == MOST_BOOKS:
                raise InvalidLine(at, "many")
            books.append([])
        elif word == "rule" and books:
            books[-1].append(_one_more_rule(rest, books[-1], at))
        elif word != "":
            raise InvalidLine(at, "line")
    if not books:
        raise InvalidLine(len(lines), "book")
    return sorted(facts), [tuple(rules) for rules in books]


def _one_more_fact(text, facts, at):
    """Return the fact of a text in the line with this number, behind these facts."""
    try:
        fact = read_any_term(text)
    except InvalidText:
        raise InvalidLine(at, "fact") from None
    if not is_fact(fact):
        raise InvalidLine(at, "fact")
    if fact in facts:
        raise InvalidLine(at, "twice")
    if len(facts) == MOST_FACTS:
        raise InvalidLine(at, "many")
    return fact


def _one_more_rule(text, rules, at):
    """Return the rule of a text in the line with this number, behind these rules of its book."""
    try:
        rule = read_rule(text)
    except (InvalidText, InvalidRule):
        raise InvalidLine(at, "rule") from None
    if sum([len(heads) for _, heads in rules + [rule]]) > MOST_HEADS_OF_A_BOOK:
        raise InvalidLine(at, "many")
    return rule
