"""Reading: files, from left to right, whole or in parts."""
