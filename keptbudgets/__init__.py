"""Keptbudgets: which budgets of errors a guesser can keep."""
