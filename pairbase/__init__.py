"""Pairbase: pairs of whole numbers told by figures in a base that is a pair, too."""
