"""The interface: each name in the module under whose heading it stands, with its arguments."""

import importlib
import inspect
import unittest

from test_arguments import KINDS

INTERFACE = {
    "flows": "into(flow, box) out_of(flow, box) parts(flow) knots(flow) is_tied(flow) marks(flow) "
             "with_marks(flow, some) turned(flow)",
    "firing": "fireable(flow) lacking(flow, box) fired(flow, box) run(flow, word) line(flow, word) peaks(flow, word)",
    "flowtext": "write_flow(flow) read_flow(text)",
    "balance": "is_balanced(flow) shows_tilt(flow, value) repetitions(flow) tilt(flow)",
    "counts": "ends(flow, counts) most_done(flow, counts) can_do(flow, counts) waits(flow, counts) blame(flow, counts) "
              "shows_blame(flow, counts, value) shows_word(flow, counts, value) word_for(flow, counts) "
              "ways(flow, counts)",
    "live": "is_live(flow) round_word(flow) endless(flow) most_ever(flow)",
    "reach": "counts_to(flow, some) comes(flow, some) all_come(flow)",
    "room": "roomed(flow, room) most_with(flow, room, counts) is_enough(flow, room) own_rooms(flow) word_room(flow) "
            "branches(flow) least_room(flow) least_rooms(flow, room)",
    "loops": "unrolled(loop) appearances(loop) depth(loop) is_schedule(flow, loop) loop_room(flow, loop) "
             "write_loop(loop) fold_size(word) folded(word) shows_fold(word, value)",
    "looptext": "read_loop(text)",
    "single": "has_single(flow) shows_single(flow, value) single(flow) forward_orders(flow) least_nest(flow, order)",
    "sets": "set_shares(flow, some) as_one(flow, some) within(flow, some) is_safe(flow, some) all_safe(flow) "
            "unfolded(flow, some, word) set_round(flow, some)",
    "unroll": "firings(flow) needs(flow)",
    "speed": "start_times(flow, times, many) first_time(flow, times) mean_time(flow, times) slow_ring(flow, times) "
             "shows_slow_ring(flow, times, value) box_means(flow, times) settled(flow, times)",
    "machine": "code_of(loop) loop_of(code) done_steps(code) trace(flow, code, room) fixed_steps(flow, loop, room) "
               "fixed_room(flow, loop)",
    "joins": "renamed(flow, order) least_form(flow) beside(flow, other) without_pipe(flow, pipe)",
}


def interface_rows():
    """Return the triples of a module, the name of a function that it should have, and the text of its arguments."""
    rows = [(name, row) for name, rows in INTERFACE.items() for row in rows.replace(") ", ")\n").split("\n")]
    return [(importlib.import_module(f"rateflows.{name}"), *row.split("(")) for name, row in rows]


class InterfaceTest(unittest.TestCase):
    def test_functions(self):
        for module, word, rest in interface_rows():
            with self.subTest(module=module.__name__, function=word):
                function = getattr(module, word)
                self.assertTrue(inspect.isfunction(function))
                # Defined there, and not imported from elsewhere.
                self.assertEqual(function.__module__, module.__name__)
                self.assertEqual(str(inspect.signature(function)), "(" + rest)

    def test_what_holds_of_all_functions_is_tested_for_each(self):
        told = {getattr(module, word): rest.count(",") + 1 for module, word, rest in interface_rows()}
        self.assertEqual({ask: len(kinds) for ask, kinds in KINDS.items()}, told)


if __name__ == "__main__":
    unittest.main()
