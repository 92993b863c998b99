package records

// Number is a number as bytes; n is 0 or more.
func Number(n int) string {
	out := []byte{}
	for n >= 128 {
		out = append(out, byte(n%128+128))
		n = n / 128
	}
	out = append(out, byte(n))
	return string(out)
}

// mostDigits is how many bytes a number may have: nine times seven bits are
// as many as an int has without its sign.
const mostDigits = 9

// firstNumber is the number with which some bytes begin, and how many bytes it
// has; none, if no number stands there.
func firstNumber(s string) (int, int) {
	n := 0
	for i := 0; i < len(s) && i < mostDigits; i++ {
		digit := int(s[i]) % 128
		n = n + digit<<(7*i)
		if s[i] >= 128 {
			continue
		}
		if digit == 0 && i > 0 {
			return 0, 0
		}
		return n, i + 1
	}
	return 0, 0
}

// oneByte goes by way of a list: string(n) would be a letter, of up to four bytes.
func oneByte(n int) string {
	return string([]byte{byte(n)})
}
