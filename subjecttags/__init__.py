"""Rows of tags in front of subjects, and what programs make of them."""
