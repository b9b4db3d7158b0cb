"""What is built up from the parts of a tree."""

import unittest

from speakmill.walking import built_up


class WalkingTest(unittest.TestCase):
    def test_parts_come_from_the_left(self):
        tree = ("a", ("b", ("c",), ("d",)), ("e",), ("f", ("g", ("h",))))
        self.assertEqual(built_up(tree, lambda node: list(node[1:]), lambda node, parts: [node[0]] + parts),
                         ["a", ["b", ["c"], ["d"]], ["e"], ["f", ["g", ["h"]]]])

    def test_each_node_is_asked_and_made_once(self):
        tree = ("a", ("b", ("c",)), ("d",))
        asked, made = [], []

        def parts_in(node):
            asked.append(node[0])
            return list(node[1:])

        built_up(tree, parts_in, lambda node, parts: made.append(node[0]))
        self.assertEqual(asked, ["a", "b", "c", "d"])
        self.assertEqual(made, ["d", "c", "b", "a"])

    def test_deep(self):
        tree = ()
        for many in range(20000):
            tree = (tree,)
        self.assertEqual(built_up(tree, list, lambda node, parts: 1 + sum(parts)), 20001)


if __name__ == "__main__":
    unittest.main()
