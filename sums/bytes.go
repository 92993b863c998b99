package sums

// FourBytes is a sum or a seal as bytes, the high one first.
func FourBytes(n int) string {
	return string([]byte{byte(n >> 24), byte(n >> 16), byte(n >> 8), byte(n)})
}

// FromFourBytes is the number of which s is FourBytes.
func FromFourBytes(s string) int {
	n := 0
	for i := 0; i < len(s); i++ {
		n = n<<8 + int(s[i])
	}
	return n
}
