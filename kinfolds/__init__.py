"""Families that are split off, founded within one another, assembled, gathered, matched and mustered."""
