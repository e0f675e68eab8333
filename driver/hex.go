package driver

import "strconv"

const (
	noBytes    = "-" // a word has at least one sign
	digitSigns = "0123456789abcdef"
	digitsBase = 16
	digitBits  = 4
	digitMask  = 1<<digitBits - 1
	byteBits   = 8
	byteDigits = byteBits / digitBits
)

// hexOf writes bytes as hex.
func hexOf(b []byte) string {
	if len(b) == 0 {
		return noBytes
	}
	out := make([]byte, 0, byteDigits*len(b))
	for _, c := range b {
		out = append(out, digitSigns[c>>digitBits], digitSigns[c&digitMask])
	}
	return string(out)
}

// bytesIn reads a word that is hex.
func bytesIn(word string) ([]byte, bool) {
	if word == noBytes {
		return nil, true
	}
	var out []byte
	for ; len(word) >= byteDigits; word = word[byteDigits:] {
		n, err := strconv.ParseUint(word[:byteDigits], digitsBase, byteBits)
		if err != nil {
			return nil, false
		}
		out = append(out, byte(n))
	}
	return out, word == ""
}
