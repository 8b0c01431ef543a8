"""Groupings: things in groups, finer and coarser, met and joined, numbered, and how many can stay."""
