"""Whyrows: answers that tell why."""
