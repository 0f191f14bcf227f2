"""Wholepages: exact answers from lossy marks, with the fewest second looks."""
