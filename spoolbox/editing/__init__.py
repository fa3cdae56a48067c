"""Editing: files made from other files, without decoding their units."""
