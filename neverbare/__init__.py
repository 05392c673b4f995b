"""Pictures printed from plates that slip, judged for all slips."""
