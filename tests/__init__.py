"""The tests of startgaps: run `python3 -m unittest` at the top of the repository."""
