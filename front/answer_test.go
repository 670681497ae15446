package front_test

import (
	"fmt"
	"slices"
	"strings"
	"testing"

	"breakwater/api"
	"breakwater/front"
)

func TestAnswersByteByByte(t *testing.T) { // P19.5: each field at its place, in its form
	for _, x := range []struct {
		want api.Answer
		b    string
	}{
		{api.Answer{}, strings.Repeat("\x00", 41)},
		{api.Answer{Code: 0x04030201}, "\x01\x02\x03\x04" + strings.Repeat("\x00", 37)},
		{api.Answer{Stat: api.Stat{Ino: 0x0201, Kind: 2, Links: 100, Size: 136704, Made: 1 << 40, Blocks: 1102}},
			"\x00\x00\x00\x00" + "\x01\x02\x00\x00" + "\x02\x00\x00\x00" + "\x64\x00\x00\x00" + "\x00\x16\x02\x00" + "\x00\x00\x00\x00\x00\x01\x00\x00" + "\x4e\x04\x00\x00" + strings.Repeat("\x00", 9)},
		{api.Answer{Data: []byte("\x00xyz\xff")}, strings.Repeat("\x00", 32) + "\x05\x00\x00\x00\x00xyz\xff" + strings.Repeat("\x00", 5)},
		{api.Answer{Entries: []api.Entry{aFile("a", 2), aDir("bc", 513)}},
			strings.Repeat("\x00", 36) + "\x02\x00\x00\x00" + "\x01\x00a\x02\x00\x00\x00\x01" + "\x02\x00bc\x01\x02\x00\x00\x02" + "\x00"},
		{api.Answer{Landed: true}, strings.Repeat("\x00", 40) + "\x01"},
		{api.Answer{Code: 190}, "\xbe" + strings.Repeat("\x00", 40)},
	} {
		readsAnswer(t, x.b, x.want)
		if x.b != encodedAnswer(x.want) {
			t.Fatalf("%s is laid otherwise by the test", sayAnswer(x.want))
		}
	}
}

// names are so many entries, with names of so many bytes.
func names(n, length int) []api.Entry {
	var all []api.Entry
	for k := range n {
		name := fmt.Sprintf("%0*d", length, k)
		all = append(all, api.Entry{Name: name[len(name)-length:], Ino: k, Kind: k % 256})
	}
	return all
}

// answers are such that have bytes: at every edge, and such as no file system gives.
func answers() []api.Answer {
	const most = 1<<32 - 1
	full := api.Stat{Ino: most, Kind: most, Links: most, Size: most, Made: 1 << 40, Blocks: most}
	return []api.Answer{
		{}, {Code: 1}, {Code: 255}, {Code: 256}, {Code: most}, {Stat: full}, {Code: 9, Stat: full, Data: []byte("d"), Entries: names(2, 40), Landed: true},
		{Stat: api.Stat{Ino: most}}, {Stat: api.Stat{Kind: most}}, {Stat: api.Stat{Links: most}}, {Stat: api.Stat{Size: most}}, {Stat: api.Stat{Made: 1<<40 - 1}}, {Stat: api.Stat{Blocks: most}},
		{Data: []byte{0}}, {Data: []byte(some(255))}, {Data: []byte(some(256))}, {Data: []byte(some(65536))}, {Data: []byte(some(1<<17 - 1))}, {Data: []byte(some(1 << 17))},
		{Entries: names(1, 1)}, {Entries: names(1, 40)}, {Entries: names(1, 39)}, {Entries: names(3, 0)}, {Entries: names(256, 4)}, {Entries: names(1067, 4)}, {Entries: names(1068, 4)}, {Entries: names(1068, 40)},
		{Entries: []api.Entry{{}}}, {Entries: []api.Entry{{Name: "z", Ino: most, Kind: 255}, {Name: "a", Kind: 3}, {Name: "a"}}}, {Entries: []api.Entry{{Name: "\x00/\xff.."}}},
		{Landed: true}, {Landed: true, Entries: names(2, 2)},
	}
}

func TestAnswersAtEdges(t *testing.T) { // P19.5: nothing but the form is asked of an answer
	for _, a := range answers() {
		readsAnswer(t, encodedAnswer(a), a)
	}
}

func TestNoAnswers(t *testing.T) { // P19.5: values that no form takes
	head := strings.Repeat("\x00", 32)
	for _, a := range []api.Answer{
		{Stat: api.Stat{Made: 1<<40 + 1}}, {Stat: api.Stat{Made: 1 << 41}}, {Stat: api.Stat{Made: 1 << 62}}, {Stat: api.Stat{Made: -1}}, {Stat: api.Stat{Made: minInt}}, {Stat: api.Stat{Made: maxInt}},
		{Data: []byte(some(1<<17 + 1))}, {Data: []byte(some(1 << 18))}, {Entries: names(1069, 4)}, {Entries: names(1069, 0)}, {Entries: names(2000, 1)}, {Entries: names(65536, 0)},
		{Entries: names(1, 41)}, {Entries: names(1, 42)}, {Entries: names(1, 400)}, {Entries: names(1, 401)}, {Entries: names(1, 65535)}, {Entries: append(names(3, 40), names(1, 41)...)}, {Entries: append(names(1, 41), names(3, 40)...)},
	} {
		isNoAnswer(t, encodedAnswer(a))
	}
	for landed := range 256 {
		b := strings.Repeat("\x00", 40) + oneByte(landed)
		if landed <= 1 {
			readsAnswer(t, b, api.Answer{Landed: landed == 1})
		} else {
			isNoAnswer(t, b)
		}
	}
	for _, n := range []int{1, 2, 1<<17 + 1, 1<<31 - 1, 1 << 31, 1<<32 - 1} { // lengths that tell more than there is
		isNoAnswer(t, head+count(n)+"\x00\x00\x00\x00\x00")
		isNoAnswer(t, head+count(0)+count(n)+"\x00")
		isNoAnswer(t, head+count(n))
		isNoAnswer(t, head+count(0)+count(1)+short(n|1)+"\x00\x00\x00\x00\x00"+"\x00")
	}
	for told := range 60 {
		for n := range 60 {
			answerAsTold(t, head+count(told)+some(n)+count(0)+"\x00")
			answerAsTold(t, head+count(0)+count(1)+short(told)+long(n)+"\x00\x00\x00\x00\x00\x00")
			answerAsTold(t, head+count(0)+count(told)+strings.Repeat("\x00", 7*n)+"\x00")
		}
	}
}

// shorter are answers whose bytes are few enough for each of them to be tried.
func shorter() []api.Answer {
	return slices.DeleteFunc(answers(), func(a api.Answer) bool { return len(encodedAnswer(a)) > 2000 })
}

func TestAnswersCutAndMadeLonger(t *testing.T) { // P19.5: each beginning is none, nor is it with more behind it
	for _, a := range shorter() {
		b := encodedAnswer(a)
		for n := range len(b) {
			isNoAnswer(t, b[:n])
		}
	}
	for _, a := range answers() {
		b := encodedAnswer(a)
		for _, more := range []string{"\x00", "\x01", "\xff", "\x00\x00", strings.Repeat("\x00", 41), b} {
			isNoAnswer(t, b+more)
		}
		for n := 1; n < len(b); n *= 2 {
			isNoAnswer(t, b[:len(b)-n])
		}
	}
	for _, b := range [][]byte{nil, {}, make([]byte, 0, 41), make([]byte, 40, 41)} {
		if a, e := front.ReadAnswer(b); e != api.ErrFrontAsk || !equal(a, api.Answer{}) {
			t.Errorf("ReadAnswer of %d bytes: %s, %d", len(b), sayAnswer(a), e)
		}
	}
}

func TestEachByteOfAnAnswerTurned(t *testing.T) { // P19.5: it is read as it stands, or is none
	var yes, no int
	for _, a := range shorter() {
		b := []byte(encodedAnswer(a))
		for k := range b {
			for _, turn := range []byte{1, 2, 4, 8, 16, 32, 64, 128, 255} {
				b[k] ^= turn
				if answerAsTold(t, string(b)) {
					yes++
				} else {
					no++
				}
				b[k] ^= turn
			}
		}
	}
	if yes < 1000 || no < 1000 {
		t.Errorf("%d are answers, %d are none", yes, no)
	}
}

func TestAnyBytesAsAnswers(t *testing.T) { // P19.5, R1: whatever they are
	next := steps(195)
	var yes int
	for range 20000 {
		b := make([]byte, 41+next(3)*next(20))
		for range next(5) {
			b[next(len(b))] = byte(next(256))
		}
		for range next(3) {
			b[32+next(len(b)-32)] = byte(next(3))
		}
		if answerAsTold(t, string(b)) {
			yes++
		}
	}
	if yes < 1000 {
		t.Errorf("%d are answers", yes)
	}
	for n := range 3000 {
		isNoAnswer(t, strings.Repeat("\xff", n))
		if n != 41 {
			isNoAnswer(t, strings.Repeat("\x00", n))
		}
	}
}

func TestARequestIsNoAnswer(t *testing.T) { // P19.2, P19.5: the two are read each as its own
	for _, o := range sampled() {
		answerAsTold(t, encoded(o))
	}
	for _, a := range shorter() {
		asTold(t, encodedAnswer(a))
	}
}
