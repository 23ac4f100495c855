"""Startgaps: how often work can be started on a line of stations."""
