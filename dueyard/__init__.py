"""Dueyard: machines shared by the turn, and promises that are kept."""
