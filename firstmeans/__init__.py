"""Firstmeans: what is known of a lot by its first means."""
