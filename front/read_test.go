package front_test

import (
	"encoding/binary"
	"slices"
	"strings"
	"testing"

	"breakwater/api"
	"breakwater/front"
)

func TestBeginnings(t *testing.T) { // P19.2: each beginning of a request is none
	for _, o := range sampled() {
		b := encoded(o)
		for n := range len(b) {
			isNone(t, b[:n])
		}
	}
	b := encoded(write("/a", 5, some(1<<17)))
	for _, n := range []int{1, 4, 16, 17, 100, 65536, 1 << 17, len(b) - 1} {
		isNone(t, b[:n])
	}
}

func TestMoreBehindIt(t *testing.T) { // P19.2: with more behind it it is none, whatever that is
	for _, o := range sampled() {
		b := encoded(o)
		for _, more := range []string{"\x00", "\x01", "\x0c", "\xff", "\x00\x00", "/", b} {
			isNone(t, b+more)
		}
	}
	isNone(t, encoded(write("/a", 5, some(1<<17)))+"\x00")
}

func TestEmptyBytes(t *testing.T) { // P19.2, R4: no bytes are none, nil or not
	for _, b := range [][]byte{nil, {}, make([]byte, 0, 9), []byte("\x0c")[:0]} {
		if o, e := front.Read(b); e != api.ErrFrontAsk || !equalOps(o, api.Op{}) {
			t.Errorf("Read of nothing: %s, %d", say(o), e)
		}
	}
}

func TestWhatStandsBehindInMemory(t *testing.T) { // R5: the spare room of the bytes says nothing
	for _, o := range sampled() {
		b := []byte(encoded(o))
		for n := range b {
			if p, e := front.Read(b[:n]); e != api.ErrFrontAsk {
				t.Fatalf("%d bytes of %s: %s, %d", n, say(o), say(p), e)
			}
		}
		if p, e := front.Read(append(b, "more"...)[:len(b)]); e != api.OK || !equalOps(o, p) {
			t.Fatalf("%s: %s, %d", say(o), say(p), e)
		}
	}
}

func TestFirstBytes(t *testing.T) { // P19.2: each first byte, ahead of what each kind has behind it
	for first := range 256 {
		there := 0
		for _, o := range sampled() {
			if asTold(t, oneByte(first)+encoded(o)[1:]) {
				there++
			}
		}
		if (there > 0) != (first >= 1 && first <= 14) {
			t.Errorf("first byte %d: %d requests", first, there)
		}
	}
}

// oneByte is a text of it alone.
func oneByte(b int) string { return string([]byte{byte(b)}) }

// short and count are lengths, whatever stands behind them.
func short(n int) string { return string(binary.LittleEndian.AppendUint16(nil, uint16(n))) }
func count(n int) string { return string(binary.LittleEndian.AppendUint32(nil, uint32(n))) }

func TestLengths(t *testing.T) { // P19.2: one that tells more than there is, or less, or more than may be
	zeros := strings.Repeat("\x00", 8)
	for _, n := range []int{401, 402, 512, 65535} {
		isNone(t, "\x0a"+short(n)+long(n))
		isNone(t, "\x0a"+short(n)+long(400))
		isNone(t, "\x0a"+short(n))
		isNone(t, "\x03"+short(1)+"/"+short(n)+long(n))
		isNone(t, "\x01"+short(n)+long(n)+zeros)
		isNone(t, "\x08"+short(n)+long(n)+zeros)
		isNone(t, "\x07"+short(n)+long(n)+zeros+count(0))
	}
	for _, n := range []int{1<<17 + 1, 1<<17 + 2, 1 << 18, 1 << 24} {
		isNone(t, "\x07"+short(1)+"/"+zeros+count(n)+some(n))
		isNone(t, "\x07"+short(1)+"/"+zeros+count(n))
	}
	for _, n := range []int{1 << 31, 1<<31 - 1, 1<<32 - 1, 1<<32 - 4} {
		isNone(t, "\x07"+short(1)+"/"+zeros+count(n)+some(300))
		isNone(t, "\x07"+short(1)+"/"+zeros+count(n))
	}
	for told := range 402 {
		for _, n := range []int{0, 1, 2, 5, 255, 256, 399, 400} {
			asTold(t, "\x0a"+short(told)+long(n))
			asTold(t, "\x06"+short(told)+long(n)+short(n)+long(told))
			asTold(t, "\x06"+short(n)+long(n)+short(told)+long(n))
			asTold(t, "\x07"+short(1)+"/"+zeros+count(told)+some(n))
		}
	}
}

func TestOtherOrders(t *testing.T) { // P19.2: numbers with the highest byte first, a length as a count, fields in another order are other ones, or none
	isNone(t, "\x0e\x03\x00\x00")
	isNone(t, "\x0a\x00\x01/")
	isNone(t, "\x0a\x01\x00\x00\x00/")
	isNone(t, "\x07"+short(2)+"/a"+count(2)+"\x05\x06"+"\x01\x00\x00\x00\x00\x00\x00\x00")
	reads(t, "\x0e\x00\x00\x00\x03", flush(3<<24))
	reads(t, "\x08\x00\x00\x01\x02\x03\x04\x05\x06\x07\x08", truncate("", 0x0807060504030201))
}

func TestEachByteTurned(t *testing.T) { // P19.2: what has one byte another is read as it stands, or is none
	var yes, no int
	for _, o := range sampled() {
		b := []byte(encoded(o))
		for k := range b {
			for _, turn := range []byte{1, 2, 4, 8, 16, 32, 64, 128, 255} {
				b[k] ^= turn
				if asTold(t, string(b)) {
					yes++
				} else {
					no++
				}
				b[k] ^= turn
			}
		}
	}
	if yes < 1000 || no < 1000 {
		t.Errorf("%d are requests, %d are none", yes, no)
	}
}

func TestEachByteOfNumbers(t *testing.T) { // P19.2: each value of each byte of a long, of a Made, of a count, of a length
	for _, o := range []api.Op{read("/", 1<<62, 0), read("/", 1<<62-1, 7), truncate("", 1<<62), create("/a"), {Kind: 1, Made: 1 << 40}, {Kind: 2, Made: 1<<40 - 1}, flush(0), flush(1<<32 - 1), write("", 0, ""), write("", 1<<62, some(256)), stat(""), stat(long(256)), link("", "")} {
		b := []byte(encoded(o))
		for k := range min(len(b), 40) {
			was := b[k]
			for v := range 256 {
				b[k] = byte(v)
				asTold(t, string(b))
			}
			b[k] = was
		}
	}
}

func TestAnyBytes(t *testing.T) { // P19.2, R1: whatever they are
	next := steps(19)
	var yes int
	for range 20000 {
		b := make([]byte, next(16))
		for k := range b {
			b[k] = byte(next(256))
			if next(3) > 0 {
				b[k] = byte(next(3))
			}
		}
		if len(b) > 0 {
			b[0] = byte(next(16))
		}
		if asTold(t, string(b)) {
			yes++
		}
	}
	if yes < 150 {
		t.Errorf("%d are requests", yes)
	}
	for n := range 5000 {
		isNone(t, strings.Repeat("\xff", n))
		isNone(t, strings.Repeat("\x00", n))
	}
	isNone(t, strings.Repeat("\x07", 1<<20))
}

// someOp is one that has bytes.
func someOp(next func(int) int) api.Op {
	o := api.Op{Kind: 1 + next(14)}
	for letter, n := range map[rune]int{'P': next(9), 'T': next(9), 'O': next(99), 'L': next(99), 'D': next(9), 'M': next(99), 'K': next(99)} {
		if strings.ContainsRune(uses(o.Kind), letter) {
			setters()[letter](&o, n)
		}
	}
	return o
}

func TestBothWays(t *testing.T) { // P19.7: Read of Bytes is the operation, Bytes of Read the bytes
	next := steps(7)
	all := sampled()
	for range 3000 {
		all = append(all, someOp(next))
	}
	for _, o := range all {
		b, e := front.Bytes(o)
		if e != api.OK {
			t.Fatalf("Bytes of %s: %d", say(o), e)
		}
		p, e := front.Read(b)
		if e != api.OK || !equalOps(o, p) {
			t.Fatalf("Read of Bytes of %s: %s, %d", say(o), say(p), e)
		}
		if again, e := front.Bytes(p); e != api.OK || string(again) != string(b) {
			t.Fatalf("Bytes of Read of %x: %x, %d", b, again, e)
		}
	}
}

func TestNoneBeginsAnother(t *testing.T) { // P19.7: of unlike operations neither's bytes begin the other's; so they are unlike, too
	next := steps(77)
	all := sampled()
	for range 3000 {
		all = append(all, someOp(next))
	}
	var texts []string
	by := map[string]api.Op{}
	for _, o := range all {
		b, _ := front.Bytes(o)
		if p, there := by[string(b)]; there && !equalOps(o, p) {
			t.Errorf("%s and %s have the same bytes", say(o), say(p))
		}
		by[string(b)] = o
		texts = append(texts, string(b))
	}
	slices.Sort(texts)
	texts = slices.Compact(texts)
	if len(texts) < 1000 {
		t.Errorf("%d of them", len(texts))
	}
	for k := range len(texts) - 1 { // what begins one of them begins that which is next to it
		if strings.HasPrefix(texts[k+1], texts[k]) {
			t.Errorf("%x begins %x", texts[k], texts[k+1])
		}
	}
}
