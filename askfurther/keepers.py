"""Keepers: the parts of a handler that are known to be right."""

from askfurther.pools import pool_of, table_of


class Keeper:
    """What a handler handles, what it asks further, its start and its clauses, however many they are.

    What a body does to it is ("ask", operation) or ("end", word): `table` has a clause for each tuple of a
    state and what a body does there, but none for a word that is let by. `pool` has the same clauses.
    """

    def __init__(self, counts, outside, begin, table, pool):
        self.counts = counts
        self.outside = outside
        self.begin = begin
        self.table = table
        self.stands = stands_of([begin], table)
        self.pool = pool


def keeper_of_table(counts, outside, begin, table):
    """The keeper with the clauses of a table."""
    return Keeper(counts, outside, begin, table, pool_of(begin, stands_of([begin], table), table))


def keeper_of_pool(counts, outside, pool):
    """The keeper with the clauses of a pool."""
    return Keeper(counts, outside, pool.names[0], table_of(pool), pool)


def are_same(one, other):
    """Whether two keepers have the same parts."""
    if one.counts != other.counts or one.outside != other.outside:
        return False
    return one.begin == other.begin and one.table == other.table


def stands_of(named, table):
    """The sorted list of these states and of all that the table names."""
    stands = {state: True for state in named}
    for state, does in table:
        stands[state] = True
        for line in table[(state, does)]:
            if line[0] == "answer":
                stands[line[2]] = True
    return sorted(stands)


def clauses_for(keeper, word):
    """The clauses for what a body does by this word, "ask" or "end", by their states and names."""
    return {(state, does[1]): keeper.table[(state, does)] for state, does in keeper.table if does[0] == word}
