"""Mailtide: mailboxes kept in step."""
