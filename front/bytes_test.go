package front_test

import (
	"bytes"
	"slices"
	"strings"
	"testing"

	"breakwater/api"
	"breakwater/front"
)

func TestEachKind(t *testing.T) { // P19.1, P19.2: byte by byte: which fields, in which order, in which form
	const off, length, made = "\x08\x07\x06\x05\x04\x03\x02\x01", "\x11\x12\x13\x14\x15\x16\x17\x18", "\xff\xfe\xfd\xfc\xfb\x00\x00\x00"
	o, l, m := 0x0102030405060708, 0x1817161514131211, 0xfbfcfdfeff
	for _, x := range []struct {
		o    api.Op
		want string
	}{
		{api.Op{Kind: 1, Path: "/ab", Made: m}, "\x01\x03\x00/ab" + made},
		{api.Op{Kind: 2, Path: "/ab", Made: m}, "\x02\x03\x00/ab" + made},
		{api.Op{Kind: 3, Path: "/ab", To: "/cde"}, "\x03\x03\x00/ab\x04\x00/cde"},
		{api.Op{Kind: 4, Path: "/ab"}, "\x04\x03\x00/ab"},
		{api.Op{Kind: 5, Path: "/ab"}, "\x05\x03\x00/ab"},
		{api.Op{Kind: 6, Path: "/ab", To: "/cde"}, "\x06\x03\x00/ab\x04\x00/cde"},
		{api.Op{Kind: 7, Path: "/ab", Off: o, Data: []byte("data!")}, "\x07\x03\x00/ab" + off + "\x05\x00\x00\x00data!"},
		{api.Op{Kind: 8, Path: "/ab", Off: o}, "\x08\x03\x00/ab" + off},
		{api.Op{Kind: 9, Path: "/ab", Off: o, Len: l}, "\x09\x03\x00/ab" + off + length},
		{api.Op{Kind: 10, Path: "/ab"}, "\x0a\x03\x00/ab"},
		{api.Op{Kind: 11, Path: "/ab"}, "\x0b\x03\x00/ab"},
		{api.Op{Kind: 12}, "\x0c"},
		{api.Op{Kind: 13, Path: "/ab"}, "\x0d\x03\x00/ab"},
		{api.Op{Kind: 14, Pick: 0xfedcba98}, "\x0e\x98\xba\xdc\xfe"},
		{api.Op{Kind: 7, Path: long(400), Off: 1 << 62, Data: bytes.Repeat([]byte{9}, 1<<17)}, "\x07\x90\x01" + long(400) + "\x00\x00\x00\x00\x00\x00\x00\x40\x00\x00\x02\x00" + strings.Repeat("\x09", 1<<17)},
		{api.Op{Kind: 1, Made: 1 << 40}, "\x01\x00\x00\x00\x00\x00\x00\x00\x01\x00\x00"},
	} {
		stands(t, x.want, x.o)
		if x.want != encoded(x.o) {
			t.Fatalf("%s is laid otherwise by the test", say(x.o))
		}
	}
}

// setters set one field each, by the letters of uses.
func setters() map[rune]func(*api.Op, int) {
	return map[rune]func(*api.Op, int){
		'P': func(o *api.Op, n int) { o.Path = some(n) },
		'T': func(o *api.Op, n int) { o.To = some(n) },
		'O': func(o *api.Op, n int) { o.Off = n },
		'L': func(o *api.Op, n int) { o.Len = n },
		'D': func(o *api.Op, n int) { o.Data = []byte(some(n)) },
		'M': func(o *api.Op, n int) { o.Made = n },
		'K': func(o *api.Op, n int) { o.Pick = n },
	}
}

func TestFieldsOfEachKind(t *testing.T) { // P19.1: with just those that it uses there are bytes; with each of the others set there are none, whatever the ones that are used have
	for kind := 1; kind <= 14; kind++ {
		full := api.Op{Kind: kind}
		for letter, set := range setters() {
			if strings.ContainsRune(uses(kind), letter) {
				set(&full, 5)
			}
		}
		for _, o := range []api.Op{{Kind: kind}, full} {
			stands(t, encoded(o), o)
			for letter, set := range setters() {
				for _, n := range []int{1, 2, 7, 255, 256} {
					p := o
					set(&p, n)
					if strings.ContainsRune(uses(kind), letter) {
						stands(t, encoded(p), p)
					} else {
						hasNone(t, p)
					}
				}
			}
		}
	}
}

func TestFieldsThatAreNotUsed(t *testing.T) { // P19.1: numbers below 0, and such whose lowest bytes are 0, are not zero either; nor are texts and bytes of zeros
	for kind := 1; kind <= 14; kind++ {
		for letter, set := range setters() {
			if strings.ContainsAny(string(letter), uses(kind)) {
				continue
			}
			var wrong []api.Op
			for _, n := range []int{-1, minInt, maxInt, 1 << 32, 1 << 62} {
				if strings.ContainsRune("OLMK", letter) {
					o := api.Op{Kind: kind}
					set(&o, n)
					wrong = append(wrong, o)
				}
			}
			switch letter {
			case 'P':
				wrong = append(wrong, api.Op{Kind: kind, Path: "\x00"}, api.Op{Kind: kind, Path: "/"}, api.Op{Kind: kind, Path: long(65536)})
			case 'T':
				wrong = append(wrong, api.Op{Kind: kind, To: "\x00"}, api.Op{Kind: kind, To: "/"}, api.Op{Kind: kind, To: long(65536)})
			case 'D':
				wrong = append(wrong, api.Op{Kind: kind, Data: []byte{0}}, api.Op{Kind: kind, Data: make([]byte, 1<<18)})
			}
			for _, o := range wrong {
				hasNone(t, o)
			}
		}
	}
}

func TestEmptyData(t *testing.T) { // R4: no bytes are none, nil or not, also where they are not used
	for kind := 1; kind <= 14; kind++ {
		for _, data := range [][]byte{nil, {}, make([]byte, 0, 9), []byte("abc")[:0]} {
			stands(t, encoded(api.Op{Kind: kind}), api.Op{Kind: kind, Data: data})
		}
	}
}

func TestKinds(t *testing.T) { // P19.1: others than 1 to 14 have no bytes, also such whose lowest byte is one of these
	for _, kind := range []int{0, -1, -2, -255, -256, -243, 15, 16, 127, 128, 254, 255, 256, 257, 256 + 12, 256 + 14, 1<<16 + 12, 1<<32 + 12, 1<<62 + 12, minInt, minInt + 12, maxInt} {
		hasNone(t, api.Op{Kind: kind})
		hasNone(t, api.Op{Kind: kind, Path: "/a"})
		hasNone(t, api.Op{Kind: kind, Pick: 3})
	}
	for kind := -300; kind < 600; kind++ {
		if _, e := front.Bytes(api.Op{Kind: kind}); (e == api.OK) != (kind >= 1 && kind <= 14) {
			t.Errorf("kind %d: %d", kind, e)
		}
	}
}

func TestTexts(t *testing.T) { // P19.1: of at most 400 bytes, of Path and of To
	for kind := 1; kind <= 14; kind++ {
		for letter, set := range setters() {
			if !strings.ContainsRune("PT", letter) || !strings.ContainsRune(uses(kind), letter) {
				continue
			}
			for _, n := range []int{0, 1, 2, 127, 128, 254, 255, 256, 257, 398, 399, 400} {
				o := api.Op{Kind: kind}
				set(&o, n)
				stands(t, encoded(o), o)
			}
			for _, n := range []int{401, 402, 511, 512, 1 << 15, 65535, 65536, 65537, 65536 + 400, 1 << 17, 1<<17 + 5} {
				o := api.Op{Kind: kind}
				set(&o, n)
				hasNone(t, o)
			}
		}
	}
}

func TestTextsThatHideAnother(t *testing.T) { // P19.1: what is too long has no bytes, though its lowest two bytes as a length would lead to a request
	hasNone(t, stat(strings.Repeat("\x00", 65536)))
	for _, n := range []int{65536, 65538, 65536 + 400} {
		hasNone(t, api.Op{Kind: api.OpLink, Path: strings.Repeat("\x00", n)})
		hasNone(t, api.Op{Kind: api.OpWrite, Path: strings.Repeat("\x00", n)})
		hasNone(t, api.Op{Kind: api.OpCreate, Path: strings.Repeat("\x00", n)})
	}
}

func TestPathsThatAreNone(t *testing.T) { // P19.1: whether it is one is not looked at; every byte is kept, also where it is no text
	every := make([]byte, 256)
	for k := range every {
		every[k] = byte(k)
	}
	for _, p := range []string{"", "a", "/", "//", "/a/", "/..", ".", "/\x00", "\x00", "\xff\xfe", "\xc3", "/\xed\xa0\x80", string(every), "/" + long(41), strings.Repeat("/", 400), strings.Repeat("\x00", 400)} {
		for kind := 1; kind <= 14; kind++ {
			if strings.Contains(uses(kind), "P") {
				stands(t, encoded(api.Op{Kind: kind, Path: p}), api.Op{Kind: kind, Path: p})
			}
			if strings.Contains(uses(kind), "T") {
				stands(t, encoded(api.Op{Kind: kind, To: p}), api.Op{Kind: kind, To: p})
				stands(t, encoded(api.Op{Kind: kind, Path: p, To: "/" + p[:min(len(p), 399)]}), api.Op{Kind: kind, Path: p, To: "/" + p[:min(len(p), 399)]})
			}
		}
	}
}

func TestData(t *testing.T) { // P19.1: of at most 2^17 bytes
	for _, n := range []int{0, 1, 255, 256, 65535, 65536, 65537, 1<<17 - 1, 1 << 17} {
		stands(t, encoded(write("/a", 3, some(n))), write("/a", 3, some(n)))
		stands(t, encoded(write("", 0, strings.Repeat("\x00", n))), write("", 0, strings.Repeat("\x00", n)))
	}
	for _, n := range []int{1<<17 + 1, 1<<17 + 2, 1 << 18, 1 << 20, 1<<24 + 3} {
		hasNone(t, write("/a", 3, some(n)))
		hasNone(t, write("", 0, strings.Repeat("\x00", n)))
	}
}

// numbers are fields of each form, with what they take and what they do not.
func numbers() []struct {
	kinds    []int
	field    rune
	yes, not []int
} {
	longs := []int{0, 1, 255, 256, 65536, 1<<31 - 1, 1 << 31, 1<<32 - 1, 1 << 32, 1 << 40, 1<<40 + 1, 1 << 56, 1<<62 - 1, 1 << 62}
	noLongs := []int{-1, -2, -255, -256, -1 << 32, -1 << 62, minInt, minInt + 1, 1<<62 + 1, 1<<62 + 2, 1<<62 + 1<<61, maxInt - 1, maxInt}
	return []struct {
		kinds    []int
		field    rune
		yes, not []int
	}{
		{[]int{7, 8, 9}, 'O', longs, noLongs},
		{[]int{9}, 'L', longs, noLongs},
		{[]int{1, 2}, 'M', []int{0, 1, 255, 256, 1 << 32, 1<<40 - 1, 1 << 40}, append([]int{1<<40 + 1, 1 << 41, 1 << 48, 1 << 62, 1<<62 - 1}, noLongs...)},
		{[]int{14}, 'K', []int{0, 1, 255, 256, 4096, 1 << 31, 1<<32 - 2, 1<<32 - 1}, append([]int{1 << 32, 1<<32 + 1, 1<<32 + 3, 1 << 40, 1 << 62}, noLongs...)},
	}
}

func TestNumbers(t *testing.T) { // P19.1, P19.2: at each end of each form, also with others beside them
	for _, x := range numbers() {
		for _, kind := range x.kinds {
			for _, o := range []api.Op{{Kind: kind}, {Kind: kind, Path: "/a"}} {
				if x.field == 'K' && o.Path != "" {
					continue
				}
				for _, n := range x.yes {
					setters()[x.field](&o, n)
					stands(t, encoded(o), o)
				}
				for _, n := range x.not {
					setters()[x.field](&o, n)
					hasNone(t, o)
					if x.field != 'K' { // what would be its bytes
						isNone(t, encoded(o))
					}
				}
			}
		}
	}
}

func TestSeveralFaults(t *testing.T) { // P19.1: the same error
	for _, o := range []api.Op{
		{Kind: 15, Path: long(401)}, {Kind: 0, Off: -1, Data: make([]byte, 1<<18)}, {Kind: 9, Path: long(401), Off: -1, Len: -1, Made: -1, Pick: -1, To: "x"},
		{Kind: 12, Path: "/", To: "/", Off: 1, Len: 1, Data: []byte{1}, Made: 1, Pick: 1}, {Kind: 7, Path: long(401), Data: make([]byte, 1<<17+1)}, {Kind: 7, Off: 1<<62 + 1, Made: 1},
	} {
		hasNone(t, o)
	}
}

// sampled are operations of each kind, at edges and between; no two are alike.
func sampled() []api.Op {
	var all []api.Op
	for kind := 1; kind <= 14; kind++ {
		for _, n := range []int{0, 1, 2, 3, 12, 255, 256, 300, 400} {
			o := api.Op{Kind: kind}
			for letter, set := range setters() {
				if strings.ContainsRune(uses(kind), letter) {
					set(&o, n)
				}
			}
			all = append(all, o)
		}
	}
	all = append(all, read("/a", 1<<62, 1<<62), api.Op{Kind: api.OpMkdir, Path: "/d", Made: 1 << 40}, flush(1<<32-1), link(long(400), "/b"), rename("", long(399)), write("/a\x00\xff", 1<<62, some(700)), write("", 0, some(400)))
	slices.SortFunc(all, func(a, b api.Op) int { return strings.Compare(encoded(a), encoded(b)) })
	return slices.CompactFunc(all, equalOps)
}
