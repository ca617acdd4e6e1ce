"""Fillbooks: books of rules that fill one store from another, joined and compared for all stores."""
