"""What a tree of stretches has to keep, so that sums can be asked while changes wait."""
