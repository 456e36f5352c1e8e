import copy
import unittest

from pieceyard.contrary import not_tree
from pieceyard.errors import BadPaper, BadText
from pieceyard.trees import depth, win_tree
from pieceyard.treenotes import read_tree, tree_text
from tests.papers import NO_TREES, branch
from tests.samples import chance_positions, no_two_are_one, small_yards
from tests.texts import misread

WON = ("won",)
NOT = ("not",)
ONE = ((0, 3), (1, 2))
OTHER = ((4, 4), (0, 0))


class TreeTextTest(unittest.TestCase):
    def test_by_hand(self):
        for tree, text in [
            (WON, "!"),
            (NOT, "?"),
            (("move", ONE, WON), "(0.3-1.2 !)"),
            (("all", [(ONE, NOT)]), "[0.3-1.2 ?]"),
            (("all", [(ONE, WON), (OTHER, ("move", ONE, WON))]), "[0.3-1.2 !|4.4-0.0 (0.3-1.2 !)]"),
            (("move", ONE, ("all", [(ONE, NOT), (ONE, NOT)])), "(0.3-1.2 [0.3-1.2 ?|0.3-1.2 ?])"),
            (("all", [(OTHER, WON), (ONE, WON)]), "[4.4-0.0 !|0.3-1.2 !]"),
            (("all", [(ONE, ("all", [(OTHER, NOT)]))]), "[0.3-1.2 [4.4-0.0 ?]]"),
        ]:
            with self.subTest(text=text):
                self.assertEqual(tree_text(tree), text)
                self.assertEqual(read_tree(text), tree)

    def test_told_trees(self):
        for yard in small_yards():
            for position in chance_positions(yard, 6, 4, 81):
                for side in (0, 1):
                    for many in (0, 1, 2, 3):
                        tree = win_tree(yard, position, side, many) or not_tree(yard, position, side, many)
                        kept = copy.deepcopy(tree)
                        text = tree_text(tree)
                        self.assertEqual(tree, kept)
                        self.assertEqual(read_tree(text), tree)
                        self.assertTrue(no_two_are_one([read_tree(text), tree]))

    def test_to_a_depth_of_12(self):
        for leaf in (WON, NOT):
            for many in range(13):
                tree = branch(many, leaf)
                self.assertEqual(read_tree(tree_text(tree)), tree)

    def test_a_depth_of_13_and_more(self):
        for leaf in (WON, NOT):
            for many in (13, 14, 20):
                text = tree_text(branch(many, leaf))
                with self.assertRaises(BadText):
                    read_tree(text)
        for many in (13, 100, 180, 220):
            for text in ("(0.0-0.1 " * many + "!" + ")" * many, "[0.0-0.1 " * many + "!" + "]" * many,
                         "(0.0-0.1 " * many, "[0.0-0.1 " * many):
                with self.assertRaises(BadText):
                    read_tree(text)

    def test_only_one_way_too_deep(self):
        text = "[0.0-0.1 !|0.0-0.2 " + tree_text(branch(12, WON)) + "]"
        with self.assertRaises(BadText):
            read_tree(text)
        text = "[0.0-0.1 !|0.0-0.2 " + tree_text(branch(11, WON)) + "]"
        self.assertEqual(depth(read_tree(text)), 12)

    def test_bad_papers(self):
        for name, tree in NO_TREES.items():
            with self.subTest(name=name):
                with self.assertRaises(BadPaper):
                    tree_text(tree)

    def test_near_texts(self):
        for text in ("!", "?", "(0.3-1.2 !)", "[0.3-1.2 ?|4.4-0.0 (0.3-1.2 ?)]", "(1.1-1.1 [0.0-0.1 !|2.2-0.0 !])"):
            wrong, read_too = misread(read_tree, tree_text, text)
            self.assertEqual(wrong, [])
            self.assertGreater(read_too, 0)

    def test_refused(self):
        for text in [
            "", " ", "\n", "!!", "!?", "! ", " !", "!\n", "()", "[]", "(", "[", ")", "]", "|", "(!)", "[!]", "( !)", "[ !]",
            "(0.3-1.2)", "[0.3-1.2]", "(0.3-1.2 )", "[0.3-1.2 ]", "(0.3-1.2!)", "(0.3-1.2  !)", "(0.3-1.2 !", "[0.3-1.2 !",
            "(0.3-1.2 ! )", "(0.3-1.2 !]", "[0.3-1.2 !)", "(0.3-1.2 !|0.3-1.2 !)", "[0.3-1.2 !|]", "[|0.3-1.2 !]",
            "[0.3-1.2 !||0.3-1.2 !]", "[0.3-1.2 ! 0.3-1.2 !]", "[0.3-1.2 !,0.3-1.2 !]", "(0.3-1.2 !)!", "!(0.3-1.2 !)",
            "[0.3-1.2 !]]", "((0.3-1.2 !))", "[0.3-1.2 !|4.4-0.0 ?]", "[0.3-1.2 ?|4.4-0.0 !]",
            "[0.3-1.2 (0.0-0.1 !)|4.4-0.0 (0.0-0.1 ?)]", "(0.3-1.2 [])", "(5.3-1.2 !)", "(0.3-1.5 !)", "(-1.3-1.2 !)",
            "(0.3--1.2 !)", "(0.03-1.2 !)", "(0.3-1.2\t!)", "(0.3-1.2 won)", "won", "(0.3-1.2 x)", "0.3-1.2 !", "(0.3 1.2 !)",
            "(0.3-1 !)", "(0.3-12 !)", "[" * 1000, "(" * 1000, "!" * 1000,
        ]:
            with self.subTest(text=text):
                with self.assertRaises(BadText) as taken:
                    read_tree(text)
                self.assertIs(type(taken.exception), BadText)

    def test_what_was_read_may_be_changed(self):
        text = "[0.3-1.2 !|4.4-0.0 [0.3-1.2 !]]"
        told = read_tree(text)
        whole = copy.deepcopy(told)
        told[1][1][1][1].clear()
        told[1].clear()
        self.assertEqual(read_tree(text), whole)
        self.assertEqual(tree_text(whole), text)


if __name__ == "__main__":
    unittest.main()
