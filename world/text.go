package world

import (
	"strconv"
	"strings"
	"unicode/utf8"
)

// maxNumber is the greatest number that a line may say.
const maxNumber = 1 << 62

// digits are those of a byte, by their values.
const digits = "0123456789abcdef"

// numberOf is the number that a word is, if it is one that may be.
func numberOf(word string, most int) (int, bool) {
	n, err := strconv.Atoi(word)
	// It is held to how it is told, since Atoi takes a plus and zeros ahead.
	return n, err == nil && 0 <= n && n <= most && strconv.Itoa(n) == word
}

// bytesOf are the bytes that a word's digits say, if all of it are such.
func bytesOf(word string) ([]byte, bool) {
	if len(word)%2 != 0 {
		return nil, false
	}
	data := make([]byte, 0, len(word)/2)
	for k := 0; k < len(word); k += 2 {
		high, low := strings.IndexByte(digits, word[k]), strings.IndexByte(digits, word[k+1])
		if high < 0 || low < 0 {
			return nil, false
		}
		data = append(data, byte(high<<4|low))
	}
	return data, true
}

// hex tells bytes by their digits.
func hex(data []byte) string {
	out := make([]byte, 0, 2*len(data))
	for _, c := range data {
		out = append(out, digits[c>>4], digits[c&15])
	}
	return string(out)
}

// signs tells a name or a path so that it is one word of a line, whatever its bytes are.
func signs(name string) string {
	var out strings.Builder
	for k, c := range name {
		if isPlain(c) {
			out.WriteRune(c)
			continue
		}
		// A rune may be several bytes, each of which is told; one that stands for no text is one byte.
		_, size := utf8.DecodeRuneInString(name[k:])
		for i := range size {
			out.WriteString("%" + hex([]byte{name[k+i]}))
		}
	}
	return out.String()
}

// isPlain tells whether a sign stands for itself.
func isPlain(c rune) bool { return 33 <= c && c <= 126 && c != '%' }
