"""What code on tables with open places does, for rings of every size."""
