"""Blocks of boxes set on pages: paragraphs and displays broken into lines, lines into pages."""
