// Package floor divides as the document does: it rounds down, also below 0, where Go's own division
// rounds up.
package floor

// Quotient divides by a positive number.
func Quotient(n, by int) int {
	if n%by < 0 {
		return n/by - 1
	}
	return n / by
}

// Remainder returns what remains when n is divided by a positive number; it is never negative.
func Remainder(n, by int) int {
	if n%by < 0 {
		return n%by + by
	}
	return n % by
}
