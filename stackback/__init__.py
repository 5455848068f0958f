"""Stack code turned back into expressions: the calls are in stackback.stackcode."""
