"""Roads whose posts point several ways, and what is walked whichever arms are right."""
