"""Moves on words: ways from word to word, proofs that there is none, and normal words where all ways meet again."""
