"""Prices of made levels: the cheapest one that fulfils a wish, and papers that show that none is cheaper."""

from heapq import heappop, heappush

from roomsthrough.closing import rows_behind
from roomsthrough.errors import BadCount, BadPrices, TooMany
from roomsthrough.fulls import full_with, is_full_of
from roomsthrough.plain import is_row, is_whole
from roomsthrough.reach import Reach
from roomsthrough.tours import Shaper
from roomsthrough.wishes import is_met, meets, need_question

MOST_PRICE = 1000


def cheapest(grammar, rules, wish, prices):
    """A tuple (price, derivation) of a cheapest level of the start that fulfils the wish, None if none does."""
    _need_priced(grammar, rules, wish, prices)
    reach = Reach(grammar, Shaper(rules))
    least, trees = _least_prices(reach, prices)
    good = [k for k in reach.of_name[grammar.start] if is_met(rules, reach.shapes[k], wish)]
    if len(good) == 0:
        return None
    best = min(good, key=lambda k: least[k])
    return (least[best], trees[best])


def price_paper(grammar, rules, wish, prices):
    """The list of the tuples (name, full, least price) of all reached fulls."""
    _need_priced(grammar, rules, wish, prices)
    reach = Reach(grammar, Shaper(rules))
    least, _ = _least_prices(reach, prices)
    paper = []
    for name in grammar.names():
        paper.extend([(name, full_with(rules, reach.shapes[k]), least[k]) for k in reach.of_name[name]])
    return paper


def is_price_paper(grammar, rules, wish, prices, least, thing):
    """Tell whether a thing is a paper which shows that no level of the start that fulfils the wish is cheaper.

    With None for the least price: that there is no such level.
    """
    _need_priced(grammar, rules, wish, prices)
    if least is not None and not is_whole(least):
        raise BadCount(least)
    if not isinstance(thing, list):
        return False
    numbers = {name: {} for name in grammar.names()}
    for line in thing:
        if not _is_line(rules, numbers, line):
            return False
        name, full, number = line
        numbers[name][full.shape] = number
        if name == grammar.start and number is not None and meets(full, wish) and (least is None or number < least):
            return False
    try:
        return _is_closed(grammar, Shaper(rules), prices, numbers)
    except TooMany:
        return False


def _need_priced(grammar, rules, wish, prices):
    """Raise the error of the first of these arguments that is wrong."""
    need_question(grammar, rules, wish)
    if not is_row(prices) or len(prices) != len(grammar.rows):
        raise BadPrices(-1)
    for at, price in enumerate(prices):
        if not is_whole(price) or not 1 <= price <= MOST_PRICE:
            raise BadPrices(at)


def _least_prices(reach, prices):
    """The dict from all numbers of a reach to their least prices, and the one to derivations with these prices."""
    uses = [[] for _ in reach.shapes]
    missing = {}
    queue = []
    for way in reach.behind:
        index, children = way
        # Where both children are the same number, it is missing twice, and is found twice at once.
        missing[way] = len(children)
        for child in children:
            uses[child].append(way)
        if len(children) == 0:
            heappush(queue, (prices[index], way))
    least = {}
    trees = {}
    while queue:
        price, way = heappop(queue)
        number = reach.behind[way]
        if number in least:
            continue
        least[number] = price
        trees[number] = (way[0], tuple([trees[child] for child in way[1]]))
        for use in uses[number]:
            missing[use] -= 1
            if missing[use] == 0:
                heappush(queue, (prices[use[0]] + sum([least[child] for child in use[1]]), use))
    return (least, trees)


def _is_line(rules, numbers, thing):
    """Tell whether a thing is a tuple (name, full, number) whose name and full have no number yet."""
    if not isinstance(thing, tuple) or len(thing) != 3:
        return False
    name, full, number = thing
    if not isinstance(name, str) or name not in numbers:
        return False
    if not is_full_of(rules, full) or full.shape in numbers[name]:
        return False
    return number is None or is_whole(number) and number >= 0


def _is_closed(grammar, shaper, prices, numbers):
    """Tell whether each production makes of what can be made nothing that is cheaper than the numbers tell."""
    made = {name: [shape for shape in numbers[name] if numbers[name][shape] is not None] for name in numbers}
    for (name, room, names), price in zip(grammar.rows, prices):
        for row in rows_behind(names, made):
            told = numbers[name].get(shaper.shape_behind(room, row))
            total = price + sum([numbers[inner][shape] for inner, shape in zip(names, row)])
            if told is None or told > total:
                return False
    return True
