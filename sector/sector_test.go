package sector_test

import (
	"bytes"
	"math"
	"math/big"
	"slices"
	"testing"

	"breakwater/api"
	"breakwater/sector"
)

var zeros api.Sector

// fullOf is a sector with one byte at all places.
func fullOf(b byte) api.Sector {
	var s api.Sector
	for i := range s {
		s[i] = b
	}
	return s
}

// mixed is a sector whose bytes differ from their neighbours, high ones among them.
func mixed(seed int) api.Sector {
	var s api.Sector
	for i := range s {
		s[i] = byte(i*i*7 + i*31 + seed*101 + 5)
	}
	return s
}

// bytesOf is a list of n bytes, none of them 0.
func bytesOf(n int) []byte {
	data := make([]byte, n)
	for i := range data {
		data[i] = byte(i%251 + 1)
	}
	return data
}

// places are such as lie within a sector, at its ends, and far outside.
func places() []int {
	list := []int{math.MinInt, math.MinInt + 1, -1 << 40, math.MaxInt - 8, math.MaxInt - 1, math.MaxInt, 1 << 40}
	for at := -10; at <= 140; at++ {
		list = append(list, at)
	}
	return list
}

// widths are such as may be, those next to them, and such as wrap round.
func widths() []int {
	return []int{math.MinInt, -8, -1, 0, 1, 2, 3, 4, 5, 6, 7, 8, 9, 64, 128, 1 << 61, math.MaxInt}
}

// lies is what P1.1 says of a place, told without numbers that wrap round.
func lies(at, width int) bool {
	end := new(big.Int).Add(big.NewInt(int64(at)), big.NewInt(int64(width)))
	return width >= 1 && width <= 8 && at >= 0 && end.Cmp(big.NewInt(api.SectorSize)) <= 0
}

// number is what stands in the bytes, by its digits.
func number(digits []byte) *big.Int {
	high := slices.Clone(digits)
	slices.Reverse(high)
	return new(big.Int).SetBytes(high)
}

// power is 256 to the width.
func power(width int) *big.Int {
	return new(big.Int).Lsh(big.NewInt(1), uint(8*width))
}

func mustSet(t *testing.T, s api.Sector, at, width, v int) api.Sector {
	t.Helper()
	u, e := sector.Set(s, at, width, v)
	if e != api.OK {
		t.Fatalf("Set(%d, %d, %d): %d", at, width, v, e)
	}
	return u
}

func mustGet(t *testing.T, s api.Sector, at, width int) int {
	t.Helper()
	v, e := sector.Get(s, at, width)
	if e != api.OK {
		t.Fatalf("Get(%d, %d): %d", at, width, e)
	}
	return v
}

func mustSplice(t *testing.T, s api.Sector, at int, data []byte) api.Sector {
	t.Helper()
	u, e := sector.Splice(s, at, data)
	if e != api.OK {
		t.Fatalf("Splice(%d, %d bytes): %d", at, len(data), e)
	}
	return u
}

func TestGetAtAllPlaces(t *testing.T) { // P1.1
	limit := new(big.Int).Lsh(big.NewInt(1), 62)
	for _, s := range []api.Sector{zeros, fullOf(1), fullOf(0x40), fullOf(255), mixed(0), mixed(1)} {
		for _, at := range places() {
			for _, width := range widths() {
				want, code := 0, api.OK
				if !lies(at, width) {
					code = api.ErrSectorPlace
				} else if n := number(s[at : at+width]); n.Cmp(limit) > 0 {
					code = api.ErrSectorValue
				} else {
					want = int(n.Int64())
				}
				if got, e := sector.Get(s, at, width); got != want || e != code {
					t.Errorf("Get(%d, %d) of %v: %d, %d; want %d, %d", at, width, s, got, e, want, code)
				}
			}
		}
	}
}

func TestGetAroundTheGreatestNumber(t *testing.T) { // P1.1
	for _, at := range []int{0, 60, 120} {
		s := fullOf(0)
		s[at+7] = 0x40
		if v := mustGet(t, s, at, 8); v != 1<<62 {
			t.Errorf("Get of 2^62 at %d: %d", at, v)
		}
		s[at] = 1
		if v, e := sector.Get(s, at, 8); v != 0 || e != api.ErrSectorValue {
			t.Errorf("Get of 2^62 + 1 at %d: %d, %d", at, v, e)
		}
		s = mustSplice(t, s, at, []byte{255, 255, 255, 255, 255, 255, 255, 0x3f})
		if v := mustGet(t, s, at, 8); v != 1<<62-1 {
			t.Errorf("Get of 2^62 - 1 at %d: %d", at, v)
		}
		s[at+7] = 0x80
		if v, e := sector.Get(s, at, 8); v != 0 || e != api.ErrSectorValue {
			t.Errorf("Get above 2^63 at %d: %d, %d", at, v, e)
		}
	}
}

// values are numbers at the ends of each width, and of int.
func values() []int {
	list := []int{math.MinInt, math.MinInt + 1, -1 << 32, -256, -1, 0, 1, 2, 258, 1<<62 - 1, 1 << 62, 1<<62 + 1, math.MaxInt - 1, math.MaxInt}
	for width := 1; width <= 7; width++ {
		edge := 1 << (8 * width)
		list = append(list, edge-1, edge, edge+1)
	}
	return list
}

// roomFor is what P1.2 says of a number.
func roomFor(v, width int) bool {
	return v >= 0 && v <= 1<<62 && big.NewInt(int64(v)).Cmp(power(width)) < 0
}

func TestSetAtAllPlaces(t *testing.T) { // P1.2
	s := mixed(2)
	for _, at := range places() {
		for _, width := range widths() {
			for _, v := range values() {
				want, code := zeros, api.OK
				if !lies(at, width) {
					code = api.ErrSectorPlace
				} else if !roomFor(v, width) {
					code = api.ErrSectorValue
				} else {
					want = s
					for i := range width {
						want[at+i] = byte(v / (1 << (8 * i)) % 256)
					}
				}
				if got, e := sector.Set(s, at, width, v); got != want || e != code {
					t.Errorf("Set(%d, %d, %d): %v, %d; want %v, %d", at, width, v, got, e, want, code)
				}
			}
		}
	}
	if s != mixed(2) {
		t.Error("Set changed what was handed in")
	}
}

func TestNumbersOfTheDocument(t *testing.T) { // P1.1, P1.2
	s := mustSet(t, zeros, 3, 2, 258)
	if s[3] != 2 || s[4] != 1 || s[5] != 0 {
		t.Errorf("258 in 2 bytes: %v", s[3:6])
	}
	for _, c := range []struct{ at, width, want int }{{3, 2, 258}, {3, 1, 2}, {2, 3, 66048}} {
		if v := mustGet(t, s, c.at, c.width); v != c.want {
			t.Errorf("Get(%d, %d): %d, want %d", c.at, c.width, v, c.want)
		}
	}
	for _, c := range []struct {
		at, width, v int
		want         api.Errno
	}{
		{126, 2, 65535, api.OK}, {127, 2, 1, api.ErrSectorPlace}, {-1, 1, 1, api.ErrSectorPlace}, {0, 0, 0, api.ErrSectorPlace}, {0, 9, 1, api.ErrSectorPlace},
		{0, 1, 256, api.ErrSectorValue}, {0, 8, -1, api.ErrSectorValue}, {0, 8, 1 << 62, api.OK}, {0, 8, 1<<62 + 1, api.ErrSectorValue},
		{128, 1, -1, api.ErrSectorPlace}, {0, 9, -1, api.ErrSectorPlace},
	} {
		if _, e := sector.Set(zeros, c.at, c.width, c.v); e != c.want {
			t.Errorf("Set(%d, %d, %d): %d, want %d", c.at, c.width, c.v, e, c.want)
		}
	}
	ones := mustSplice(t, zeros, 0, bytes.Repeat([]byte{255}, 8))
	if v, e := sector.Get(ones, 0, 8); v != 0 || e != api.ErrSectorValue {
		t.Errorf("eight bytes 255: %d, %d", v, e)
	}
	if v := mustGet(t, ones, 0, 7); v != 1<<56-1 {
		t.Errorf("seven bytes 255: %d", v)
	}
}

func TestZero(t *testing.T) { // P1.3
	if !sector.Zero(zeros) {
		t.Error("the sector of zeros is not Zero")
	}
	for i := range api.SectorSize {
		for _, b := range []byte{1, 128, 255} {
			s := zeros
			s[i] = b
			if sector.Zero(s) {
				t.Errorf("Zero with %d at %d", b, i)
			}
		}
	}
	if sector.Zero(fullOf(255)) || sector.Zero(mixed(0)) {
		t.Error("Zero of a sector that has bytes")
	}
}

func TestSpliceAtAllPlaces(t *testing.T) { // P1.4
	s := mixed(3)
	for _, at := range places() {
		for _, n := range []int{0, 1, 2, 64, 126, 127, 128, 129, 300} {
			data := bytesOf(n)
			want, code := zeros, api.OK
			if at < 0 || at > 128 || n > 128-at {
				code = api.ErrSectorPlace
			} else {
				want = s
				for i, b := range data {
					want[at+i] = b
				}
			}
			if got, e := sector.Splice(s, at, data); got != want || e != code {
				t.Errorf("Splice(%d, %d bytes): %v, %d; want %v, %d", at, n, got, e, want, code)
			}
			if !bytes.Equal(data, bytesOf(n)) {
				t.Errorf("Splice(%d, %d bytes) changed what was handed in", at, n)
			}
		}
	}
}

func TestSpliceOfNothing(t *testing.T) { // P1.4
	for _, data := range [][]byte{nil, {}} {
		for _, at := range []int{0, 1, 127, 128} {
			if s := mustSplice(t, mixed(4), at, data); s != mixed(4) {
				t.Errorf("no data at %d: %v", at, s)
			}
		}
		for _, at := range []int{-1, 129, math.MinInt, math.MaxInt} {
			if s, e := sector.Splice(mixed(4), at, data); s != zeros || e != api.ErrSectorPlace {
				t.Errorf("no data at %d: %v, %d", at, s, e)
			}
		}
	}
}

func TestWipe(t *testing.T) { // P1.5
	for _, s := range []api.Sector{fullOf(1), mixed(5), zeros} {
		for _, from := range places() {
			want := s
			for i := range want {
				if i >= from {
					want[i] = 0
				}
			}
			if got := sector.Wipe(s, from); got != want {
				t.Errorf("Wipe from %d: %v, want %v", from, got, want)
			}
		}
	}
	if s := sector.Wipe(fullOf(1), 126); s[125] != 1 || s[126] != 0 || s[127] != 0 {
		t.Errorf("Wipe from 126: %v", s)
	}
	if sector.Wipe(fullOf(1), -5) != zeros || sector.Wipe(fullOf(1), 128) != fullOf(1) {
		t.Error("Wipe from -5 or 128")
	}
}

// lengths are those of lists around whole sectors.
func lengths() []int {
	return []int{0, 1, 2, 127, 128, 129, 255, 256, 257, 1000, 1280}
}

func TestCut(t *testing.T) { // P1.6
	for _, n := range lengths() {
		data := bytesOf(n)
		got := sector.Cut(data)
		if len(got) != (n+127)/128 {
			t.Fatalf("Cut of %d bytes: %d sectors", n, len(got))
		}
		for k, s := range got {
			for i, b := range s {
				var want byte
				if at := 128*k + i; at < n {
					want = data[at]
				}
				if b != want {
					t.Fatalf("Cut of %d bytes: sector %d has %d at %d, want %d", n, k, b, i, want)
				}
			}
		}
		if !bytes.Equal(data, bytesOf(n)) {
			t.Errorf("Cut of %d bytes changed what was handed in", n)
		}
	}
	if len(sector.Cut(nil)) != 0 || len(sector.Cut([]byte{})) != 0 {
		t.Error("Cut of no data")
	}
	sevens := sector.Cut(bytes.Repeat([]byte{7}, 129))
	if len(sevens) != 2 || sevens[0] != fullOf(7) || sevens[1] != mustSet(t, zeros, 0, 1, 7) {
		t.Errorf("Cut of 129 bytes 7: %v", sevens)
	}
}

func TestCutHidesWhatLiesBehind(t *testing.T) { // P1.6: the spare room of data is not data
	data := bytesOf(300)
	if got := sector.Cut(data[:129]); len(got) != 2 || got[1] != mustSet(t, zeros, 0, 1, int(data[128])) {
		t.Errorf("Cut of the first 129 of 300 bytes: %v", got)
	}
}

func TestJoin(t *testing.T) { // P1.7
	for count := range 4 {
		var list []api.Sector
		var all []byte
		for k := range count {
			s := mixed(k)
			list = append(list, s)
			all = append(all, s[:]...)
		}
		for _, n := range []int{math.MinInt, -129, -1, 0, 1, 2, 127, 128, 129, 255, 256, 257, 383, 384, 385, 999, 1 << 40, math.MaxInt} {
			want := all[:min(max(n, 0), len(all))]
			if got := sector.Join(n, list...); !bytes.Equal(got, want) {
				t.Errorf("Join(%d) of %d sectors: %v, want %v", n, count, got, want)
			}
		}
	}
}

func TestJoinOfTheDocument(t *testing.T) { // P1.7
	sevens := sector.Cut(bytes.Repeat([]byte{7}, 129))
	want := append([]byte{7}, make([]byte, 127)...)
	want = append(want, 7, 7)
	if got := sector.Join(130, sevens[1], sevens[0]); !bytes.Equal(got, want) {
		t.Errorf("Join(130): %v", got)
	}
	if len(sector.Join(-1, zeros)) != 0 || len(sector.Join(5)) != 0 {
		t.Error("Join of nothing has bytes")
	}
	if got := sector.Join(999, zeros); !bytes.Equal(got, make([]byte, 128)) {
		t.Errorf("Join(999): %v", got)
	}
}

func TestBackIsWhatWasSet(t *testing.T) { // P1.8
	for at := range api.SectorSize {
		for width := 1; width <= 8 && at+width <= api.SectorSize; width++ {
			for _, v := range values() {
				if !roomFor(v, width) {
					continue
				}
				s := mustSet(t, mixed(6), at, width, v)
				if got := mustGet(t, s, at, width); got != v {
					t.Errorf("Get behind Set(%d, %d, %d): %d", at, width, v, got)
				}
			}
		}
	}
}

func TestBackIsMadeOfParts(t *testing.T) { // P1.8
	s := mixed(7)
	for at := range api.SectorSize - 7 {
		s[at+7] &= 0x3f // in eight bytes the number may be
		for width := 2; width <= 8; width++ {
			whole := mustGet(t, s, at, width)
			for first := 1; first < width; first++ {
				low, high := mustGet(t, s, at, first), mustGet(t, s, at+first, width-first)
				if whole != low+high<<(8*first) {
					t.Errorf("%d bytes at %d: %d; %d and %d, split at %d", width, at, whole, low, high, first)
				}
			}
		}
	}
}

// change is a Set or a Splice, and the places that it has.
type change struct {
	at, width int
	do        func(t *testing.T, s api.Sector) api.Sector
}

// changes are some of both kinds, wide and narrow.
func changes() []change {
	var list []change
	for _, at := range []int{0, 1, 7, 8, 9, 63, 64, 119, 120, 126, 127} {
		for _, width := range []int{1, 2, 8} {
			if at+width > api.SectorSize {
				continue
			}
			v := 0x21a3b2c1d4e5f607 & (1<<(8*width) - 1) // as many of its bytes as there is room for
			list = append(list,
				change{at, width, func(t *testing.T, s api.Sector) api.Sector { return mustSet(t, s, at, width, v) }},
				change{at, width, func(t *testing.T, s api.Sector) api.Sector { return mustSplice(t, s, at, bytesOf(width)) }})
		}
	}
	return append(list, change{128, 0, func(t *testing.T, s api.Sector) api.Sector { return mustSplice(t, s, 128, nil) }})
}

func TestApart(t *testing.T) { // P1.9
	list := changes()
	apart := 0
	for _, a := range list {
		once := a.do(t, mixed(8))
		if a.do(t, once) != once {
			t.Errorf("twice at %d, %d bytes: not as once", a.at, a.width)
		}
		for _, b := range list {
			if a.at+a.width > b.at && b.at+b.width > a.at {
				continue
			}
			apart++
			if a.do(t, b.do(t, mixed(8))) != b.do(t, a.do(t, mixed(8))) {
				t.Errorf("%d bytes at %d and %d at %d: the order is seen", a.width, a.at, b.width, b.at)
			}
		}
	}
	if apart < 1000 {
		t.Errorf("only %d pairs were apart", apart)
	}
}

func TestWhole(t *testing.T) { // P1.10
	for _, n := range lengths() {
		data := bytesOf(n)
		if got := sector.Join(len(data), sector.Cut(data)...); !bytes.Equal(got, data) {
			t.Errorf("Join of Cut of %d bytes: %v", n, got)
		}
	}
	for _, first := range []int{0, 128, 256, 1280} {
		for _, n := range lengths() {
			a, b := bytesOf(first), bytes.Repeat([]byte{9}, n)
			both := sector.Cut(slices.Concat(a, b))
			if !slices.Equal(both, slices.Concat(sector.Cut(a), sector.Cut(b))) {
				t.Errorf("Cut of %d bytes and %d", first, n)
			}
		}
	}
}

func TestAnswersAreNewMemory(t *testing.T) { // R4
	data := bytesOf(129)
	list := sector.Cut(data)
	other := sector.Cut(data)
	list[0], list[1] = fullOf(3), fullOf(4)
	if !bytes.Equal(data, bytesOf(129)) || other[0] == fullOf(3) {
		t.Error("Cut shares its answer")
	}
	joined, again := sector.Join(129, list...), sector.Join(129, list...)
	joined[0], joined[128] = 9, 9
	if list[0] != fullOf(3) || list[1] != fullOf(4) || again[0] != 3 || again[128] != 4 {
		t.Error("Join shares its answer")
	}
	spare := joined[:cap(joined)]
	for i := range spare {
		spare[i] = 8
	}
	if list[0] != fullOf(3) || list[1] != fullOf(4) || again[0] != 3 {
		t.Error("Join shares its answer's spare room")
	}
}
