"""The tests of firstmeans."""
