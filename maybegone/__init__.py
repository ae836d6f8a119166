"""Maybegone: programs that can notice when cells are cleared away."""
