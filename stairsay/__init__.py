"""Stairsay: sayings about total functions, shown by climbing from lesser things to greater ones."""
