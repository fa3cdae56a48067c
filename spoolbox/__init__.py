"""Spoolbox: files of tracks that can be read in parts, entered, cut, joined and saved."""
