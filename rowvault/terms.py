"""Terms: dicts from products, tuples of at most two places of a shape in its order, to integers."""

from rowvault.checks import is_whole
from rowvault.shapes import take_place
from rowvault.tables import take_weight
from rowvault.words import whole_text

MOST_DEGREE = 2


def is_product(shape, value):
    """Whether any value is a product of places of the shape."""
    if not isinstance(value, tuple) or len(value) > MOST_DEGREE:
        return False
    if not all([place in shape for place in value]):
        return False
    return len(value) < 2 or shape.indexes[value[0]] <= shape.indexes[value[1]]


def are_terms(shape, value):
    """Whether any value is a dict from products to integers."""
    if not isinstance(value, dict):
        return False
    return all([is_product(shape, product) for product in value]) and all([is_whole(one) for one in value.values()])


def rank_of(shape, product):
    """An integer by which products are in order, shorter ones first."""
    rank = 0
    for place in product:
        rank = rank * (len(shape.places) + 1) + shape.indexes[place] + 1
    return rank


def in_order(shape, terms):
    """The terms whose integers are not 0, in order."""
    ranked = {rank_of(shape, product): product for product in terms if terms[product] != 0}
    products = [ranked[rank] for rank in sorted([int(one) for one in ranked])]
    return {product: terms[product] for product in products}


def added(one, other, times):
    """One dict of terms and another one so many times."""
    total = {}
    for product in one:
        total[product] = one[product]
    for product in other:
        total[product] = total.get(product, 0) + times * other[product]
    return total


def multiplied(shape, one, other):
    """The product of two dicts of terms."""
    total = {}
    for left in one:
        for right in other:
            product = joined(shape, left, right)
            total[product] = total.get(product, 0) + one[left] * other[right]
    return total


def joined(shape, left, right):
    """The product of two products."""
    if left == () or right == ():
        return (*left, *right)
    places = (*left, *right)
    return places if shape.indexes[left[0]] <= shape.indexes[right[0]] else places[::-1]


def worth_of(product, table):
    """The product of a table's amounts."""
    worth = 1
    for place in product:
        worth = worth * table[place]
    return worth


def term_text(product, number):
    """The text of an integer and the places of its product."""
    places = " * ".join([f"{key} {day}" for key, day in product])
    return f"{whole_text(number)} {places}" if places else whole_text(number)


def take_terms(words, shape):
    """The terms, in order, that the next words tell, and the words behind them."""
    if words.peek() == "-":
        return {}, words.behind()
    terms = {}
    last = (shape.places[-1], shape.places[-1])
    number, words = take_weight(words)
    product, words = take_first(words, shape)
    terms[product] = number
    while words.peek() == "," and product != last:
        number, words = take_weight(words.behind())
        product, words = take_product(words, shape, product)
        terms[product] = number
    return terms, words


def take_first(words, shape):
    """The first product of all, which can be the one without places, and the words behind it."""
    if words.peek() is None or words.peek() == ",":
        return (), words
    return take_product(words, shape, ())


def take_product(words, shape, after):
    """The product of places, behind the one ahead, that the next words tell, and the words behind it."""
    ahead = [shape.indexes[place] for place in after]
    count = len(shape.places)
    # Behind a pair with the last place as its second one, no pair has the same first one.
    least = 0
    if len(ahead) == 2:
        least = ahead[0] if ahead[1] < count - 1 else ahead[0] + 1
    first, words = take_place(words, shape, least - 1)
    index = shape.indexes[first]
    if words.peek() != "*":
        if len(ahead) == 2 or len(ahead) == 1 and index <= ahead[0]:
            words.refuse()
        return (first,), words
    behind = index - 1
    if len(ahead) == 2 and index == ahead[0]:
        behind = ahead[1]
    second, words = take_place(words.behind(), shape, behind)
    return (first, second), words
