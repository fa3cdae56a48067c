"""The model: presentations and their parts."""
