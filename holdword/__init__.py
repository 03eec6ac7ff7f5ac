"""Holdword: houses that hold one another to promises by letters, and a judge that tells just what is sure."""
