"""Purseweb: houses that lend to all their neighbours at once."""
