package records

// Number is a number as bytes; n is 0 or more.
func Number(n int) string {
	out := []byte{}
	for n >= 128 {
		out = append(out, byte(n%128+128))
		n = n / 128
	}
	out = append(out, byte(n))
	return string(out)
}

// FourBytes is a sum or a seal as bytes, the high one first.
func FourBytes(n int) string {
	return string([]byte{byte(n >> 24), byte(n >> 16), byte(n >> 8), byte(n)})
}

// oneByte goes by way of a list: string(n) would be a letter, of up to four bytes.
func oneByte(n int) string {
	return string([]byte{byte(n)})
}
