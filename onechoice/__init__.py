"""Onechoice: voters that settle on one wish, whatever is lost."""
