"""Inorderonce: a message queue over several brokers that keeps order and counts once."""
