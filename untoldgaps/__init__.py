"""Balls on a line that clash when nobody knows how far apart they are."""
