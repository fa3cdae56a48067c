"""Editing: what is shown, and files that are entered, cut and joined without decoding all of their units."""
