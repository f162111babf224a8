"""Tables, certificates and fewest steps: what is true of all walks of a program."""
