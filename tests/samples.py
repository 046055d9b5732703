"""What several test files share: tables and votes to ask about, and a check of 0.2 and 0.6."""

from copy import deepcopy
from itertools import combinations, permutations

# 3 beats 0, 0 beats 1 and 2, 1 beats 2 and 3, 2 beats 3.
FOUR = [
    [False, True, True, False],
    [False, False, True, True],
    [False, False, False, True],
    [True, False, False, False],
]

# 0 beats 1, 1 beats 2, 2 beats 0; 3 beats these three; each of 4, 5, 6 beats 3 and two of the three.
# No other thing covers 3, yet each chain with 3 as its head has a beater.
SEVEN = [
    [False, True, False, False, False, False, True],
    [False, False, True, False, False, True, False],
    [True, False, False, False, True, False, False],
    [True, True, True, False, False, False, False],
    [True, True, False, True, False, False, False],
    [True, False, True, True, True, False, False],
    [False, True, True, True, True, True, False],
]


def table_from(many, bits):
    """The full table in which the k-th pair (lesser thing first) goes to the lesser where bit k is set."""
    table = [[False] * many for thing in range(many)]
    for place, (one, other) in enumerate(combinations(range(many), 2)):
        lesser_beats = bits >> place & 1 == 1
        table[one][other] = lesser_beats
        table[other][one] = not lesser_beats
    return table


def pair_count(many):
    return many * (many - 1) // 2


def all_tables(many):
    return [table_from(many, bits) for bits in range(2 ** pair_count(many))]


def some_tables(many, count):
    """A spread of tables that is the same each time."""
    span = 2 ** pair_count(many)
    return [table_from(many, (place * 2654435761 + place ** 3 * 40503 + many) % span) for place in range(count)]


def tables_of_all_sizes():
    """All tables of 1 to 4 things, and some of 5 to 8, with one ring and with several."""
    tables = []
    for many in range(1, 5):
        tables.extend(all_tables(many))
    for many in range(5, 9):
        tables.extend(some_tables(many, 40))
    return tables + tables_with_rings() + [SEVEN]


def thin_ring(many):
    """Each thing beats the next one and all that stand two or more places ahead of it."""
    return [[other == one + 1 or other < one - 1 for other in range(many)] for one in range(many)]


def renumbered(table, order):
    return [[table[one][other] for other in order] for one in order]


def stacked(tables):
    """The things of each table beat all things of the tables behind it."""
    many = sum(len(table) for table in tables)
    stack = [[one < other for other in range(many)] for one in range(many)]
    first = 0
    for table in tables:
        for one, row in enumerate(table):
            stack[first + one][first:first + len(row)] = row
        first += len(table)
    return stack


def nested(outer, inners):
    """The table in which a whole table stands in the place of each thing of the outer one."""
    homes = [place for place, inner in enumerate(inners) for thing in inner]
    table = [[outer[here][there] for there in homes] for here in homes]
    for place, inner in enumerate(inners):
        first = homes.index(place)
        for one, row in enumerate(inner):
            table[first + one][first:first + len(row)] = row
    return table


def mixed_up(table, seed):
    """The table with its things numbered in another way, the same each time."""
    return renumbered(table, order_number(len(table), seed * 29387 + 31))


def nested_tables():
    """Tables of one ring and of several in which sets of several things stand together, also one within another."""
    one, two, three, four = [[False]], [[False, True], [False, False]], thin_ring(3), thin_ring(4)
    inner = nested(three, [two, one, one])
    tables = [
        nested(three, [two, one, one]), nested(three, [one, three, one]), nested(three, [one, two, two]),
        nested(three, [three, one, two]), nested(three, [three, three, two]), nested(three, [two, four, two]),
        nested(three, [inner, three, one]), nested(three, [one, inner, one]), nested(four, [two, two, two, two]),
        nested(four, [one, three, one, one]), nested(thin_ring(5), [two, one, two, one, two]),
        nested(thin_ring(6), [one, one, two, one, two, one]),
        nested(three, [stacked([one, three]), stacked([two, one]), one]), nested(two, [inner, three]),
        nested(two, [two, inner]), nested(stacked([one, three]), [two, one, three, two]),
    ]
    return [mixed_up(table, seed) for seed, table in enumerate(tables)]


RING_SIZES = [
    (1, 1), (1, 3), (3, 1), (1, 1, 1, 1, 1), (4, 1), (1, 4, 1), (3, 3), (1, 3, 1, 1), (5, 1), (6, 1), (3, 4),
    (1, 5, 1), (7, 1), (1, 7), (5, 3), (3, 5), (4, 4), (1, 3, 1, 3), (3, 1, 4), (1, 1, 1, 1, 1, 1, 1, 1), (3, 3, 1, 1),
    (3,), (4,), (5,), (6,), (7,), (8,),
]


def ring_order(sizes):
    """In which order the things of these rings get their numbers: mixed up, the same each time."""
    return list(order_number(sum(sizes), 29387 * sum(sizes) + 31 * len(sizes)))


def table_of_rings(sizes):
    """A table with a ring for each of the sizes (1, or 3 and more), from the top down."""
    return renumbered(stacked([thin_ring(many) for many in sizes]), ring_order(sizes))


def tables_with_rings():
    return [table_of_rings(sizes) for sizes in RING_SIZES]


def few_tables():
    """Tables of 1 to 8 things, with one ring and with several, few enough to ask much about each."""
    tables = tables_with_rings() + [SEVEN]
    for many in range(1, 9):
        tables.extend(some_tables(many, 3))
    return tables


def subsets(things):
    """All lists of these things, in their order, the empty one too."""
    lists = [[]]
    for thing in things:
        lists = lists + [earlier + [thing] for earlier in lists]
    return lists


def partings(things):
    """All ways to part these things into lists of at least one thing."""
    if not things:
        return [[]]
    ways = []
    for way in partings(things[1:]):
        ways.append([[things[0]]] + way)
        ways.extend([way[:place] + [[things[0]] + way[place]] + way[place + 1:] for place in range(len(way))])
    return ways


def together_by_words(table, things):
    """8.1 by its words."""
    outside = [other for other in range(len(table)) if other not in things]
    return all(dominates(table, other, things) or all(table[one][other] for one in things) for other in outside)


def each_beats_the_next(table, things):
    return all(table[one][other] for one, other in zip(things, things[1:]))


def dominates(table, one, things):
    return all(table[one][other] for other in things)


def is_chain_by_words(table, things):
    """3.1 by its words: each of one thing or more beats all that stand behind it."""
    pairs = combinations(things, 2)
    return len(things) > 0 and all(table[one][other] for one, other in pairs)


def has_beater(table, things):
    return any(dominates(table, one, things) for one in range(len(table)))


def chains_by_words(table):
    """All chains of a table, out of all sets of its things."""
    chains = []
    for things in subsets(range(len(table))):
        # In a chain the one that beats more of the others stands ahead.
        ranked = sorted(things, key=lambda one: -sum(table[one][other] for other in things))
        if is_chain_by_words(table, ranked):
            chains.append(ranked)
    return chains


def crowns_by_words(table):
    """3.3 by its words: the heads of all chains that have no beater."""
    return sorted({chain[0] for chain in chains_by_words(table) if not has_beater(table, chain)})


def holds_by_words(table, thing, paper, chains):
    """3.4 by its words, over all chains of the table."""
    if paper[0] == "chain":
        chain = paper[1]
        return is_chain_by_words(table, chain) and chain[0] == thing and not has_beater(table, chain)
    for chain, beater in paper[1]:
        if not (is_chain_by_words(table, chain) and chain[0] == thing and dominates(table, beater, chain)):
            return False
    headed = [set(chain) for chain in chains if chain[0] == thing]
    return all(any(things <= set(chain) for chain, beater in paper[1]) for things in headed)


def comes_to(table):
    """Which thing comes to which, itself too, by opening one thing after the other for passing through."""
    many = len(table)
    comes = [[one == other or table[one][other] for other in range(many)] for one in range(many)]
    for over in range(many):
        for one in range(many):
            for other in range(many):
                comes[one][other] = comes[one][other] or (comes[one][over] and comes[over][other])
    return comes


def top_by_words(table):
    """The things that come to all things."""
    return [one for one, row in enumerate(comes_to(table)) if all(row)]


def order_number(many, number):
    """The order with this number, of all orders of so many things."""
    left = list(range(many))
    order = []
    while left:
        number, place = divmod(number, len(left))
        order.append(left.pop(place))
    return tuple(order)


def some_votes(many, ballots, seed):
    """Votes that are the same each time; their voices together may be odd or even."""
    votes = []
    for place in range(ballots):
        number = (seed * 7919 + place * 104729 + place ** 2 * 31) % 40320
        votes.append((1 + number % 17, order_number(many, number)))
    return votes


def made_odd(votes):
    """The same votes, with one voice more in the first ballot where their sum is even."""
    if sum(count for count, order in votes) % 2 == 0:
        return [(votes[0][0] + 1, votes[0][1])] + votes[1:]
    return votes


def some_orders(many, count):
    """Orders of so many things, as lists: all of up to 4 things, else a spread that is the same each time."""
    if many <= 4:
        return [list(order) for order in permutations(range(many))]
    return [list(order_number(many, place * 10007 + place ** 2 * 31)) for place in range(count)]


def some_tree(many, deep, seed):
    """A tree of so many things, the same each time, with some branch of just this depth."""
    if deep == 0:
        return seed % 1009 % many
    other = some_tree(many, seed // 7 % deep, seed * 31 % 99991 + 17)
    deepest = some_tree(many, deep - 1, seed * 57 % 99991 + 5)
    return (deepest, other) if seed // 3 % 2 == 0 else (other, deepest)


def full_tree(deep, things):
    """The tree in which every branch has this depth, with these things from left to right, round and round."""
    row = [things[place % len(things)] for place in range(2 ** deep)]
    while len(row) > 1:
        row = list(zip(row[::2], row[1::2]))
    return row[0]


def depth_of(tree):
    return 1 + max(depth_of(side) for side in tree) if isinstance(tree, tuple) else 0


def some_trees(many):
    """Trees of up to 9 questions deep: things alone, narrow ones and full ones."""
    trees = list(range(many)) + [full_tree(9, list(range(many))), full_tree(9, [many - 1]), ((0, 0), (0, 0))]
    for deep in range(10):
        trees.extend([some_tree(many, deep, 1000 * deep + seed) for seed in range(1, 6)])
    return trees


def wrong_orders(many):
    """Orders that do not tell each of so many things once and nothing else."""
    good = tuple(range(many))
    orders = [
        (),
        good[:-1],
        good[1:],
        good + (0,),
        good + (many - 1,),
        good + (many,),
        good + (-1,),
        (-1,) + good,
        good[:-1] + (many,),
        (many,) + good[1:],
        (-1,) + good[1:],
        good[:-1] + (-1,),
        tuple(range(1, many + 1)),
        good + good,
    ]
    if many > 1:
        orders.append(good[:-1] + (0,))
        orders.append((many - 1,) + good[1:])
        orders.append((0,) * many)
    return orders


def no_orders(many):
    """Lists that are no orders of so many things; good orders of another count of things are among them."""
    lists = [list(order) for order in wrong_orders(many)] + [[10 ** 40] * many]
    return lists + [list(range(other)) for other in range(11) if other != many]


def bad_votes(many):
    """Votes in which the order of some ballot is a wrong one, their voices in all odd or even."""
    good = (1, tuple(range(many)))
    votes = []
    for order in wrong_orders(many):
        votes.extend([[(1, order)], [good, (1, order)], [(2, order), good, good]])
    return votes


def even_votes(many):
    """Good votes whose voices in all are even, no ballot at all too."""
    good = tuple(range(many))
    return [[], [(2, good)], [(1, good), (1, good)], [(1, good), (1, good[1:] + good[:1])], [(10 ** 30, good)]]


def scribbled(value):
    """Spoils every list within a value, as an asker may."""
    if isinstance(value, (list, tuple)):
        for inner in value:
            scribbled(inner)
    if isinstance(value, list):
        value.reverse()
        value.append("spoilt")


def check_kept(test, asking, *given):
    """0.2 and 0.6: nothing handed in changes, what is told is the asker's own, and asked again it is the same."""
    before = deepcopy(given)
    first = asking(*given)
    told = deepcopy(first)
    test.assertEqual(given, before)
    second = asking(*given)
    test.assertEqual(second, told)
    scribbled(first)
    test.assertEqual(given, before)
    test.assertEqual(second, told)
    third = asking(*given)
    test.assertEqual(third, told)
    scribbled(given)
    test.assertEqual(third, told)
    test.assertEqual(asking(*before), told)


def check_refused(test, refusal, asking, *given):
    """The refusal is of this very class each time, and nothing handed in changes."""
    before = deepcopy(given)
    for again in range(2):
        with test.assertRaises(refusal) as caught:
            asking(*given)
        test.assertIs(type(caught.exception), refusal)
        test.assertEqual(given, before)
