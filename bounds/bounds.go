// Package bounds: which numbers may be.
package bounds

import "postern/api"

// Gate tells whether a gate may have this number.
func Gate(n int) bool { return between(0, n, api.MaxGate) }

// Admission tells whether a gate may have made one of this number.
func Admission(n int) bool { return between(1, n, api.MaxOwn) }

// Epoch tells whether there may be this one.
func Epoch(n int) bool { return between(0, n, api.MaxEpoch) }

// Serial tells whether a ticket may have this one.
func Serial(n int) bool { return between(0, n, api.MaxSerial) }

// Class tells whether a ticket may have this one.
func Class(n int) bool { return between(0, n, api.MaxClass) }

func between(least int, n int, most int) bool { return least <= n && n <= most }
