"""Whomaysign: books of who may sign payments, and what any lot of people can move."""
