"""Rules, the rows that they make, and the rounds of these."""
