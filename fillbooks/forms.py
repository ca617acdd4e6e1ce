"""The least form of a book: the fewest rules of one head each, written so that there is just one."""

from fillbooks.books import check_book, is_book, one_headed
from fillbooks.errors import TooMany
from fillbooks.holding import in_rows, least_rules
from fillbooks.rows import written
from fillbooks.terms import in_order, nth_variable, replaced
from fillbooks.texts import text_of_rule


def least_form(book):
    """Return the least form of a book."""
    check_book(book)
    return formed(book)


def reach(book):
    """Return of how many facts, at the most, a fact needs to be told."""
    check_book(book)
    return max([len(body) for body, _ in formed(book)], default=0)


def formed(book):
    """Return what least_form returns, without a look at what is passed."""
    rows, rules = in_rows(one_headed(book))
    return in_form(_fewest(rows, rules))


def book_form(rows, rules):
    """Return the least form of these rules in rows; raise TooMany if it is no book."""
    told = _fewest(rows, rules)
    if not is_book(tuple(told)):
        raise TooMany("what comes is no book")
    return in_form(told)


def in_form(rules):
    """Return the book of these rules, with the variables named, the bodies and the rules put in order."""
    texts = {}
    for rule in rules:
        text, told = _least_order(rule)
        texts[text] = told
    return tuple([texts[text] for text in sorted(texts)])


def _fewest(rows, rules):
    """Return the fewest rules that tell what these rules in rows tell, written out, in any order and with any names."""
    terms = written(rows)
    return [(tuple([terms[atom] for atom in body]), (terms[head],)) for body, head in least_rules(rows, rules)]


def _least_order(rule):
    """Return the least text of a rule, of all orders of its body, and the rule so written."""
    body, heads = rule
    texts = {}
    for order in _orders(len(body)):
        told = _named([body[k] for k in order], heads)
        texts[text_of_rule(told)] = told
    least = min(list(texts))
    return least, texts[least]


def _named(body, heads):
    """Return the rule with its variables named in the order in which they stand in it."""
    ways = {name: nth_variable(k) for k, name in enumerate(in_order(body))}
    return tuple([replaced(atom, ways) for atom in body]), tuple([replaced(atom, ways) for atom in heads])


def _orders(many):
    """Return the list of all orders of the numbers below this one."""
    orders = [[]]
    for k in range(many):
        orders = [order[:at] + [k] + order[at:] for order in orders for at in range(len(order) + 1)]
    return orders
