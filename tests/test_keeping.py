"""keeping: things of any kind kept as one's own (point 2)."""

import unittest

from tacticwright.keeping import is_loose, own


class TestKeeping(unittest.TestCase):

    THINGS = [None, 1, "x", b"x", (), (1, "x"), ("a", ("b", ("c",))), [], {}, [1, [2, (3, [4])]], ("a", [1], {"b": [2], 3: ({},)}),
              {"a": {"b": {"c": []}}}, {("a", 1): (1, 2, 3)}, [(1, 2), (3, 4), [5, 6]]]

    def test_a_copy_is_like_it(self):
        for thing in self.THINGS:
            self.assertEqual(own(thing), thing)
            self.assertEqual(repr(own(thing)), repr(thing))

    def test_each_list_and_dict_of_a_copy_is_new(self):
        def walk(one, other):
            if isinstance(one, (list, dict)):
                self.assertIsNot(one, other)
            if isinstance(one, (list, tuple)):
                for k, part in enumerate(one):
                    walk(part, other[k])
            if isinstance(one, dict):
                for key, part in one.items():
                    walk(part, other[key])
        for thing in self.THINGS:
            walk(thing, own(thing))

    def test_loose_ones(self):
        for thing in ([], {}, [1], ("a", []), ("a", ("b", {})), (((([],),),),)):
            self.assertIs(is_loose(thing), True, thing)
        for thing in (None, 1, "x", (), ("a", ("b", 1)), object(), frozenset()):
            self.assertIs(is_loose(thing), False, thing)

    def test_what_has_no_end_is_kept_as_it_is(self):
        knot = []
        knot.append(knot)
        self.assertIs(own(knot), knot)
        self.assertIs(is_loose(knot), True)
        often = ()
        for turn in range(200):
            often = (often, often)
        self.assertIs(own(often), often)
        self.assertIs(is_loose(often), False)

    def test_far_deeper_than_a_call_may_go(self):
        deep = []
        for turn in range(10000):
            deep = [deep]
        made = own(deep)
        self.assertIsNot(made, deep)
        for turn in range(10000):
            made = made[0]
        self.assertEqual(made, [])


if __name__ == "__main__":
    unittest.main()
