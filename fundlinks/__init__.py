"""How a fund did, reckoned in exact fractions; the calls are answered by fundlinks.desk."""
