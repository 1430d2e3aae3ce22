"""Paidahead: what must each deed pay, so that the house is never short?"""
