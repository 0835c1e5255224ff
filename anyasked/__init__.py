"""anyasked: shares shown rounded, whatever number was asked."""
