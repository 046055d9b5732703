"""The interface: every name is there, in its file, with its arguments in their order."""

import unittest
from importlib import import_module
from inspect import Parameter, signature

FUNCTIONS = {
    "votes": ["asked(votes, many)", "voices(votes)", "lead(votes, one, other)", "table_of(votes, many)"],
    "tables": [
        "is_full(rows)", "part(table, things)", "turned(table)", "beaten_by(table, one)", "beaters_of(table, one)",
        "votes_for(table)",
    ],
    "rings": [
        "reached(table, one)", "way(table, one, other)", "rings(table)", "top_ring(table)", "row_from(table, one)",
        "round_of(table, ring)",
    ],
    "covers": ["covers(table, one, other)", "uncovered(table)", "reason(table, one, other)"],
    "chains": ["is_chain(table, things)", "beaters(table, things)", "stands(table, chain)", "grown(table, chain)"],
    "crowns": ["crowns(table)", "crown_paper(table, thing)", "shows_crown(table, thing, paper)"],
    "trees": ["is_good(tree, many)", "things_in(tree)", "standing_tree(order)", "rest_tree(order)"],
    "plain": ["side_asked(order, tree)", "sides_gone(votes, many, tree)", "plain_end(votes, many, tree)"],
    "ahead": ["ahead_end(table, tree)", "last_standing(table, order)", "chain_behind(table, order)"],
    "orders": [
        "to_stand(table, thing)", "to_crown(table, thing)", "to_rest(table, thing)", "brings(table, kind, order)",
    ],
    "chair": ["can_be_had(table, kind)", "best_for(table, kind, wish)"],
    "lines": ["fits(order, line)", "all_fit(votes, many, line)", "line_of(votes, many)", "shows_bar(votes, paper)"],
    "middles": ["middle(votes, many, line)", "ranked(votes, many, line)"],
    "pairings": ["pairing_sum(table)", "kernel(table)"],
    "weighing": [
        "score(table, weights, thing)", "is_even(table, weights)", "weighing(table)", "play(table, weights, others)",
    ],
    "parts": ["stands_together(table, things)", "closure(table, things)", "parts(table)"],
    "folds": ["folded(table, pieces)", "joined(table, tables)", "places_of(pieces, many)"],
    "standing": ["standing_of(table, thing)", "raised_votes(votes, place, thing)"],
    "words": ["is_name(word)", "number_of(word)"],
    "asks": ["row_asked(row)"],
    "house": ["run(text)"],
}

CLASSES = {
    ("book", "Book(many)"): [
        "many(self)", "put_in(self, voices, order)", "go_out(self, number)", "raised(self, number, thing)",
        "take_back(self)", "numbers(self)", "votes(self)", "table(self)", "left(self)",
    ],
    ("house", "House(names)"): ["ask(self, row)", "book(self)"],
}


class Interface(unittest.TestCase):
    def check_call(self, holder, wanted):
        name = wanted.partition("(")[0]
        told = signature(getattr(holder, name))
        self.assertEqual(name + str(told), wanted)
        for parameter in told.parameters.values():
            self.assertIs(parameter.kind, Parameter.POSITIONAL_OR_KEYWORD)

    def test_functions(self):
        for name, calls in FUNCTIONS.items():
            module = import_module(f"askorder.{name}")
            for wanted in calls:
                self.check_call(module, wanted)
                self.assertEqual(getattr(module, wanted.partition("(")[0]).__module__, module.__name__)

    def test_classes(self):
        for (name, made), calls in CLASSES.items():
            module = import_module(f"askorder.{name}")
            self.check_call(module, made)
            for wanted in calls:
                self.check_call(getattr(module, made.partition("(")[0]), wanted)


if __name__ == "__main__":
    unittest.main()
