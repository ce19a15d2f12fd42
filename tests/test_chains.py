"""Point 4: the chain of a number that is no square."""

import unittest
from math import isqrt

from oneapart.chains import chain
from tests.trying import KNOWN_CHAIN, OTHERS


def fractions_of(first, parts):
    """The fractions that the chain gives when it is broken off, one after the other."""
    above_before, below_before, above, below = 1, 0, first, 1
    yield above, below
    for part in parts:
        above_before, above = above, part * above + above_before
        below_before, below = below, part * below + below_before
        yield above, below


class Chain(unittest.TestCase):
    def test_known_chains(self):
        for number, expected in KNOWN_CHAIN.items():
            self.assertEqual(chain(number), expected)

    def test_a_pair_of_a_whole_number_and_a_list_of_whole_numbers(self):
        for number in OTHERS:
            found = chain(number)
            self.assertIs(type(found), tuple)
            self.assertEqual(len(found), 2)
            self.assertIs(type(found[0]), int)
            self.assertIs(type(found[1]), list)
            for part in found[1]:
                self.assertIs(type(part), int)
                self.assertGreater(part, 0)

    def test_the_first_part_is_the_whole_part_of_the_root(self):
        for number in OTHERS:
            self.assertEqual(chain(number)[0], isqrt(number))

    def test_broken_off_anywhere_it_is_by_turns_too_little_and_too_great(self):
        # Only the root's own chain has it between each two fractions, for two rounds and more.
        for number in OTHERS:
            first, parts = chain(number)
            for at, (above, below) in enumerate(fractions_of(first, parts * 2 + parts[:1])):
                if at % 2 == 0:
                    self.assertLess(above * above, number * below * below)
                else:
                    self.assertGreater(above * above, number * below * below)

    def test_the_round_is_the_shortest(self):
        for number in OTHERS:
            parts = chain(number)[1]
            for length in range(1, len(parts)):
                if len(parts) % length == 0:
                    self.assertNotEqual(parts[:length] * (len(parts) // length), parts)

    def test_the_last_is_twice_the_first_part_and_the_others_the_same_from_both_ends(self):
        for number in OTHERS:
            first, parts = chain(number)
            self.assertEqual(parts[-1], 2 * first)
            self.assertEqual(parts[:-1], parts[:-1][::-1])

    def test_a_told_round_may_be_changed(self):
        for number in [2, 7, 61, 999999]:
            first, parts = chain(number)
            kept = list(parts)
            parts.append(5)
            parts[0] = -1
            self.assertEqual(chain(number), (first, kept))
            chain(number)[1].clear()
            self.assertEqual(chain(number), (first, kept))
            self.assertIsNot(chain(number)[1], chain(number)[1])


if __name__ == "__main__":
    unittest.main()
