"""Halfcuts: clips that are cut by halves and rearranged again and again."""
