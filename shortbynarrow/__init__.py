"""Families and their blockers, and the one number between shortest, narrowest and all."""
