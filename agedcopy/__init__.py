"""Agedcopy: copies of unknown age and a log of deeds."""
