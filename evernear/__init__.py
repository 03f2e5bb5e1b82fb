"""Evernear: helpers who answer calls for ever."""
