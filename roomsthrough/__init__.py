"""Roomsthrough: puzzles of many rooms."""
