"""Triedagain: a small language of rows that are asked one by one and tried again."""
