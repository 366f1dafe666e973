"""Trueleaf: pages that tell the truth of themselves."""
