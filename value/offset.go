package value

import (
	"tryst/api"
)

// maxOffset is the greatest offset, and the greatest one back.
const maxOffset = secondsOfDay - 1

// An offset has a sign, and two digits each of its hours, minutes and, maybe, seconds.
const (
	shortOffset = len("+hhmm")
	longOffset  = len("+hhmmss")
)

// Offset returns the text of the offset n.
func Offset(n int) (string, api.Errno) {
	if n < -maxOffset || n > maxOffset {
		return "", api.ErrValue
	}
	sign := byte('+')
	if n < 0 {
		sign, n = '-', -n
	}
	text := appendTwo([]byte{sign}, n/secondsOfHour)
	text = appendTwo(text, n%secondsOfHour/secondsOfMinute)
	if seconds := n % secondsOfMinute; seconds > 0 {
		text = appendTwo(text, seconds)
	}
	return string(text), api.OK
}

// ParseOffset returns the offset that is read from s.
func ParseOffset(s string) (int, api.Errno) {
	if len(s) != shortOffset && len(s) != longOffset || s[0] != '+' && s[0] != '-' {
		return 0, api.ErrValue
	}
	digits := s[1:]
	if len(s) == shortOffset {
		digits += "00"
	}
	n, ok := decimal(digits, longOffset-1)
	hour, minute, second := n/10000, n/100%100, n%100
	if !ok || hour > 23 || minute > 59 || second > 59 {
		return 0, api.ErrValue
	}
	// Only + is written before 0.
	negative := s[0] == '-'
	if negative && n == 0 {
		return 0, api.ErrValue
	}
	return int(signed(hour*secondsOfHour+minute*secondsOfMinute+second, negative)), api.OK
}

// appendTwo appends a number of at most two digits in two digits.
func appendTwo(text []byte, n int) []byte {
	return append(text, '0'+byte(n/10), '0'+byte(n%10))
}
