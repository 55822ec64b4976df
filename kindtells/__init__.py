"""Functions told over small worlds, and the programs that tell them over all."""
