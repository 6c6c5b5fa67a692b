"""Lazyhoist: reckonings moved to where they are wanted."""
