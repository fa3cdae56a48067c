"""Saving: what is left of files, found in any row of bytes and made into files again."""
