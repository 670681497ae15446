package front

import "breakwater/api"

// How many bytes the numbers have.
const (
	octetBytes = 1
	shortBytes = 2
	countBytes = 4
	longBytes  = 8
)

// The greatest numbers.
const (
	maxOctet = 1<<8 - 1
	maxCount = 1<<32 - 1
	maxLong  = 1 << 62
	maxFlag  = 1
)

// part is a piece of a request or of an answer. Its type says how it stands in bytes; it leads to its value, so that one list of parts says how something is laid and how it is read.
type part any

// The forms.
type (
	octet   struct{ at *int }
	count   struct{ at *int }
	code    struct{ at *api.Errno } // a count
	flag    struct{ at *bool }      // a byte, 0 or 1
	data    struct{ at *[]byte }
	entries struct{ at *[]api.Entry } // a count of them, then each
	long    struct {
		at   *int
		most int
	}
	text struct {
		at   *string
		most int
	}
)

// lay puts parts behind b. Nothing is refused: of a number that has no room its lowest bytes are laid.
func lay(b []byte, parts ...part) []byte {
	for _, p := range parts {
		switch p := p.(type) {
		case octet:
			b = layNumber(b, *p.at, octetBytes)
		case count:
			b = layNumber(b, *p.at, countBytes)
		case code:
			b = layNumber(b, int(*p.at), countBytes)
		case long:
			b = layNumber(b, *p.at, longBytes)
		case flag:
			b = layFlag(b, *p.at)
		case text:
			b = append(layNumber(b, len(*p.at), shortBytes), *p.at...)
		case data:
			b = append(layNumber(b, len(*p.at), countBytes), *p.at...)
		case entries:
			b = layEntries(b, *p.at)
		}
	}
	return b
}

// layNumber puts one behind b, its lowest byte first.
func layNumber(b []byte, v, size int) []byte {
	for range size {
		b = append(b, byte(v))
		v >>= 8
	}
	return b
}

func layFlag(b []byte, set bool) []byte {
	if set {
		return append(b, 1)
	}
	return append(b, 0)
}

func layEntries(b []byte, all []api.Entry) []byte {
	b = layNumber(b, len(all), countBytes)
	for _, e := range all {
		b = lay(b, entryParts(&e)...)
	}
	return b
}
