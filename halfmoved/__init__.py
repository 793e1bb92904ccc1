"""Halfmoved: a table that is moved from form to form while programs of every form work on it."""
