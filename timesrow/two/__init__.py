"""Two rows at once, and two rules that are alike."""
