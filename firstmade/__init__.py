"""Firstmade: values made at first use by one of any number of hands."""
