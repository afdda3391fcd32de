"""Moves on words: ways from word to word, and weights that tell why there is none."""
