"""Writing: presentations as files."""
