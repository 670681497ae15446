package disk_test

import (
	"math"
	"slices"
	"testing"

	"breakwater/api"
	"breakwater/disk"
)

// fullOf is a sector with one byte at all places.
func fullOf(b byte) api.Sector {
	var s api.Sector
	for i := range s {
		s[i] = b
	}
	return s
}

// row is an image of such sectors.
func row(list ...byte) []api.Sector {
	var image []api.Sector
	for _, b := range list {
		image = append(image, fullOf(b))
	}
	return image
}

// mixed is an image whose sectors differ, each from its neighbours and within itself.
func mixed(n int) []api.Sector {
	image := make([]api.Sector, n)
	for k := range image {
		for i := range image[k] {
			image[k][i] = byte(k*7 + k/256*3 + i*i + 1)
		}
	}
	return image
}

func mustNew(t *testing.T, sectors int) *disk.Disk {
	t.Helper()
	d, e := disk.New(sectors)
	if d == nil || e != api.OK {
		t.Fatalf("New(%d): %v, %d", sectors, d, e)
	}
	return d
}

func mustFrom(t *testing.T, image []api.Sector) *disk.Disk {
	t.Helper()
	d, e := disk.From(image)
	if d == nil || e != api.OK {
		t.Fatalf("From of %d sectors: %v, %d", len(image), d, e)
	}
	return d
}

// has holds a disk to what it should have, its power on or off.
func has(t *testing.T, d *disk.Disk, want []api.Sector, writes int, down bool) {
	t.Helper()
	if !slices.Equal(d.Image(), want) {
		t.Errorf("Image: %v, want %v", d.Image(), want)
	}
	if d.Len() != len(want) || d.Writes() != writes || d.Down() != down {
		t.Errorf("Len %d, Writes %d, Down %v; want %d, %d, %v", d.Len(), d.Writes(), d.Down(), len(want), writes, down)
	}
}

func write(t *testing.T, d *disk.Disk, n int, b byte, want api.Errno) {
	t.Helper()
	if e := d.Write(n, fullOf(b)); e != want {
		t.Errorf("Write(%d, %ds): %d, want %d", n, b, e, want)
	}
}

func read(t *testing.T, d *disk.Disk, n int, b byte, want api.Errno) {
	t.Helper()
	if s, e := d.Read(n); s != fullOf(b) || e != want {
		t.Errorf("Read(%d): %v, %d; want %ds, %d", n, s, e, b, want)
	}
}

func arm(t *testing.T, d *disk.Disk, writes int, want api.Errno) {
	t.Helper()
	if e := d.Arm(writes); e != want {
		t.Errorf("Arm(%d): %d, want %d", writes, e, want)
	}
}

// lose lets a disk's power go, with nothing more written.
func lose(t *testing.T, d *disk.Disk) {
	t.Helper()
	arm(t, d, 0, api.OK)
	write(t, d, 0, 99, api.ErrDiskDown)
	if !d.Down() {
		t.Fatal("the power is on behind a write of a disk that was armed with 0")
	}
}

// outside are numbers of sectors that a disk of n has not.
func outside(n int) []int {
	return []int{-1, -2, -n, n, n + 1, 4096, 4097, 1 << 32, -1 << 32, math.MaxInt, math.MinInt}
}

func TestNewSizes(t *testing.T) { // P2.1
	for _, n := range []int{0, -1, -4096, 4097, 4098, 1 << 32, 1<<32 + 1, 1 << 62, math.MaxInt, math.MinInt} {
		if d, e := disk.New(n); d != nil || e != api.ErrDiskSize {
			t.Errorf("New(%d): %v, %d", n, d, e)
		}
	}
	for _, n := range []int{1, 2, 3, 8, 1000, 4095, 4096} {
		d := mustNew(t, n)
		has(t, d, make([]api.Sector, n), 0, false)
		read(t, d, n-1, 0, api.OK)
	}
}

func TestFromSizes(t *testing.T) { // P2.1
	for _, image := range [][]api.Sector{nil, {}, mixed(4097), mixed(5000)} {
		if d, e := disk.From(image); d != nil || e != api.ErrDiskSize {
			t.Errorf("From of %d sectors: %v, %d", len(image), d, e)
		}
	}
	for _, n := range []int{1, 2, 3, 8, 1000, 4095, 4096} {
		has(t, mustFrom(t, mixed(n)), mixed(n), 0, false)
	}
	wide := mixed(5000)
	has(t, mustFrom(t, wide[:2]), mixed(2), 0, false)
	if d, e := disk.From(wide[:0]); d != nil || e != api.ErrDiskSize {
		t.Errorf("From of no sectors with room behind them: %v, %d", d, e)
	}
}

func TestNoDiskIsArmedAtFirst(t *testing.T) { // P2.1
	for _, d := range []*disk.Disk{mustNew(t, 2), mustFrom(t, row(1, 2))} {
		for i := range 100 {
			write(t, d, i%2, byte(i), api.OK)
		}
		has(t, d, row(98, 99), 100, false)
	}
}

func TestFromKeepsNothing(t *testing.T) { // P2.1, R4
	image := row(1, 2, 3)
	d := mustFrom(t, image[:2])
	image[0], image[1] = fullOf(9), fullOf(9)
	has(t, d, row(1, 2), 0, false)
	write(t, d, 1, 8, api.OK)
	if !slices.Equal(image, row(9, 9, 3)) {
		t.Errorf("a write went to what was handed in: %v", image)
	}
	other := mustFrom(t, image)
	same := mustFrom(t, image)
	write(t, other, 0, 4, api.OK)
	has(t, same, row(9, 9, 3), 0, false)
}

func TestRead(t *testing.T) { // P2.2
	for _, n := range []int{1, 3, 4096} {
		image := mixed(n)
		d := mustFrom(t, image)
		for i := range n {
			if s, e := d.Read(i); s != image[i] || e != api.OK {
				t.Fatalf("Read(%d) of %d sectors: %v, %d", i, n, s, e)
			}
		}
		for _, i := range outside(n) {
			read(t, d, i, 0, api.ErrDiskPlace)
		}
		has(t, d, image, 0, false)
	}
}

func TestReadAnswersAValue(t *testing.T) { // P2.2, R4
	d := mustFrom(t, row(1, 2))
	s, _ := d.Read(1)
	s[0], s[127] = 9, 9
	read(t, d, 1, 2, api.OK)
}

func TestReadWithoutPower(t *testing.T) { // P2.2: the power is asked ahead of the place
	d := mustFrom(t, row(1, 2))
	lose(t, d)
	for _, n := range append(outside(2), 0, 1) {
		read(t, d, n, 0, api.ErrDiskDown)
	}
	has(t, d, row(1, 2), 0, true)
}

func TestReadOfAnArmedDisk(t *testing.T) { // P2.2, P2.3: reads use no arming up
	d := mustFrom(t, row(1, 2))
	arm(t, d, 0, api.OK)
	for range 5 {
		read(t, d, 1, 2, api.OK)
		has(t, d, row(1, 2), 0, false)
	}
	write(t, d, 1, 3, api.ErrDiskDown)
}

func TestImageIsNew(t *testing.T) { // P2.2, R4
	d := mustFrom(t, row(1, 2, 3))
	a, b := d.Image(), d.Image()
	a[1] = fullOf(9)
	if !slices.Equal(b, row(1, 2, 3)) {
		t.Errorf("two images share memory: %v", b)
	}
	for _, list := range [][]api.Sector{a[:cap(a)], b[:cap(b)]} {
		for i := range list {
			list[i] = fullOf(7)
		}
	}
	has(t, d, row(1, 2, 3), 0, false)
	before := d.Image()
	write(t, d, 0, 5, api.OK)
	if !slices.Equal(before, row(1, 2, 3)) {
		t.Errorf("a write went to an image that was answered: %v", before)
	}
}

func TestWrite(t *testing.T) { // P2.3, P2.4
	d := mustNew(t, 3)
	s := mixed(2)[1]
	if e := d.Write(1, s); e != api.OK {
		t.Fatalf("Write(1): %d", e)
	}
	want := row(0, 0, 0)
	want[1] = s
	has(t, d, want, 1, false)
	for _, n := range outside(3) {
		write(t, d, n, 9, api.ErrDiskPlace)
	}
	has(t, d, want, 1, false)
	write(t, d, 0, 4, api.OK)
	write(t, d, 2, 5, api.OK)
	write(t, d, 1, 6, api.OK)
	write(t, d, 1, 6, api.OK)
	has(t, d, row(4, 6, 5), 5, false)
	great := mustNew(t, 4096)
	write(t, great, 4095, 1, api.OK)
	write(t, great, 4096, 1, api.ErrDiskPlace)
	read(t, great, 4095, 1, api.OK)
}

func TestWriteWithoutPower(t *testing.T) { // P2.3: the power is asked ahead of the place
	d := mustFrom(t, row(1, 2))
	write(t, d, 0, 3, api.OK)
	lose(t, d)
	for _, n := range append(outside(2), 0, 1) {
		write(t, d, n, 9, api.ErrDiskDown)
	}
	has(t, d, row(3, 2), 1, true)
}

func TestArmingIsUsedUp(t *testing.T) { // P2.3, P2.5, P2.8
	for _, k := range []int{0, 1, 2, 3, 7, 100} {
		d := mustFrom(t, row(1, 2, 3))
		write(t, d, 2, 50, api.OK)
		arm(t, d, k, api.OK)
		for i := range k {
			write(t, d, 3, 9, api.ErrDiskPlace)
			write(t, d, -1, 9, api.ErrDiskPlace)
			write(t, d, 0, byte(i+10), api.OK)
		}
		// A sector that is not there is refused as such, and takes no power.
		write(t, d, 3, 9, api.ErrDiskPlace)
		if d.Down() || d.Writes() != k+1 {
			t.Fatalf("armed with %d: Down %v, Writes %d ahead of the last write", k, d.Down(), d.Writes())
		}
		before := d.Image()
		write(t, d, 1, 9, api.ErrDiskDown)
		has(t, d, before, k+1, true)
		write(t, d, 1, 9, api.ErrDiskDown)
		has(t, d, before, k+1, true)
	}
}

func TestArmRefuses(t *testing.T) { // P2.5, R3
	d := mustFrom(t, row(1, 2))
	for _, k := range []int{-1, -2, math.MinInt} {
		arm(t, d, k, api.ErrArg)
	}
	write(t, d, 0, 3, api.OK) // it is not armed still
	write(t, d, 0, 4, api.OK)
	arm(t, d, 1, api.OK)
	arm(t, d, -1, api.ErrArg) // and is armed as it was
	write(t, d, 0, 5, api.OK)
	write(t, d, 0, 6, api.ErrDiskDown)
	for _, k := range []int{0, 1, 5, math.MaxInt} {
		arm(t, d, k, api.ErrDiskDown)
	}
	for _, k := range []int{-1, math.MinInt} {
		arm(t, d, k, api.ErrArg) // ahead of the power
	}
	has(t, d, row(5, 2), 3, true)
	d.Restart()
	write(t, d, 1, 7, api.OK) // what was refused has armed nothing
	has(t, d, row(5, 7), 4, false)
}

func TestArmAnew(t *testing.T) { // P2.5
	d := mustNew(t, 1)
	arm(t, d, 5, api.OK)
	write(t, d, 0, 1, api.OK)
	arm(t, d, 2, api.OK)
	write(t, d, 0, 2, api.OK)
	write(t, d, 0, 3, api.OK)
	arm(t, d, 1, api.OK)
	write(t, d, 0, 4, api.OK)
	write(t, d, 0, 5, api.ErrDiskDown)
	has(t, d, row(4), 4, true)
	d = mustNew(t, 1)
	arm(t, d, 0, api.OK)
	arm(t, d, math.MaxInt, api.OK)
	for i := range 50 {
		write(t, d, 0, byte(i), api.OK)
	}
	arm(t, d, 0, api.OK)
	if d.Down() {
		t.Error("Arm(0) alone takes the power")
	}
	write(t, d, 0, 9, api.ErrDiskDown)
	has(t, d, row(49), 50, true)
}

func TestRestart(t *testing.T) { // P2.6
	d := mustFrom(t, row(1, 2))
	write(t, d, 0, 3, api.OK)
	d.Restart()
	has(t, d, row(3, 2), 1, false)
	arm(t, d, 0, api.OK)
	d.Restart() // the power is on: the arming is taken away
	for i := range 10 {
		write(t, d, 1, byte(i), api.OK)
	}
	has(t, d, row(3, 9), 11, false)
	arm(t, d, 2, api.OK)
	write(t, d, 0, 5, api.OK)
	d.Restart()
	for i := range 10 {
		write(t, d, 1, byte(i+20), api.OK)
	}
	lose(t, d)
	d.Restart()
	has(t, d, row(5, 29), 22, false)
	read(t, d, 1, 29, api.OK)
	for i := range 10 {
		write(t, d, 1, byte(i+40), api.OK)
	}
	has(t, d, row(5, 49), 32, false)
	d.Restart()
	d.Restart()
	has(t, d, row(5, 49), 32, false)
}

func TestCopyHasAll(t *testing.T) { // P2.7
	d := mustFrom(t, mixed(5))
	write(t, d, 2, 9, api.OK)
	has(t, d.Copy(), d.Image(), 1, false)
	c := d.Copy() // not armed, as d is not
	for i := range 20 {
		write(t, c, 1, byte(i), api.OK)
	}
	arm(t, d, 3, api.OK)
	write(t, d, 0, 8, api.OK)
	c = d.Copy()
	for _, x := range []*disk.Disk{d, c} {
		write(t, x, 0, 1, api.OK)
		write(t, x, 0, 2, api.OK)
		write(t, x, 0, 3, api.ErrDiskDown)
	}
	has(t, d, c.Image(), 4, true)
	c = d.Copy()
	has(t, c, d.Image(), 4, true)
	read(t, c, 0, 0, api.ErrDiskDown)
	arm(t, c, 1, api.ErrDiskDown)
}

func TestCopyIsAnother(t *testing.T) { // P2.7
	d := mustFrom(t, row(1, 2))
	c := d.Copy()
	write(t, d, 0, 3, api.OK)
	write(t, c, 1, 4, api.OK)
	write(t, c, 1, 5, api.OK)
	has(t, d, row(3, 2), 1, false)
	has(t, c, row(1, 5), 2, false)
	arm(t, d, 0, api.OK)
	write(t, c, 0, 6, api.OK)
	write(t, d, 0, 6, api.ErrDiskDown)
	has(t, c, row(6, 5), 3, false)
	has(t, d, row(3, 2), 1, true)
	lost := d.Copy()
	d.Restart()
	has(t, d, row(3, 2), 1, false)
	has(t, lost, row(3, 2), 1, true)
	arm(t, d, 1, api.OK)
	again := d.Copy()
	again.Restart()
	write(t, again, 0, 7, api.OK)
	write(t, again, 0, 7, api.OK)
	write(t, d, 0, 8, api.OK)
	write(t, d, 0, 8, api.ErrDiskDown)
	has(t, again, row(7, 2), 3, false)
}

func TestOfTheDocument(t *testing.T) { // P2.1 to P2.7
	d := mustNew(t, 3)
	has(t, d, row(0, 0, 0), 0, false)
	read(t, d, 2, 0, api.OK)
	read(t, d, 3, 0, api.ErrDiskPlace)
	read(t, d, -1, 0, api.ErrDiskPlace)
	write(t, d, 1, 7, api.OK)
	read(t, d, 1, 7, api.OK)
	write(t, d, 3, 7, api.ErrDiskPlace)
	has(t, d, row(0, 7, 0), 1, false)
	arm(t, d, -1, api.ErrArg)
	arm(t, d, 1, api.OK)
	write(t, d, 3, 9, api.ErrDiskPlace)
	write(t, d, 0, 8, api.OK)
	write(t, d, 1, 9, api.ErrDiskDown)
	read(t, d, 1, 0, api.ErrDiskDown)
	write(t, d, 9, 9, api.ErrDiskDown)
	arm(t, d, 5, api.ErrDiskDown)
	arm(t, d, -1, api.ErrArg)
	has(t, d, row(8, 7, 0), 2, true)
	c := d.Copy()
	has(t, c, row(8, 7, 0), 2, true)
	d.Restart()
	read(t, d, 1, 7, api.OK)
	has(t, d, row(8, 7, 0), 2, false)
	has(t, c, row(8, 7, 0), 2, true)
	arm(t, d, 0, api.OK)
	d.Restart()
	write(t, d, 2, 5, api.OK)
	has(t, d, row(8, 7, 5), 3, false)
}

// told is what a disk was told, kept as a list: what it has is found by going through all of it.
type told struct {
	first []api.Sector
	done  []done
}

type done struct {
	n int
	b byte
}

func (h told) image() []api.Sector {
	image := slices.Clone(h.first)
	for _, w := range h.done {
		image[w.n] = fullOf(w.b)
	}
	return image
}

// steps answers numbers below a limit, the same ones in every run.
func steps(seed uint32) func(limit int) int {
	return func(limit int) int {
		seed = seed*1664525 + 1013904223
		return int(seed>>8) % limit
	}
}

// play asks a disk many things in a mixed order, and holds each answer to the list of what was done.
func play(t *testing.T, seed uint32) {
	next := steps(seed)
	h := told{first: mixed(next(6) + 1)}
	d := mustFrom(t, h.first)
	size, down, left := len(h.first), false, -1 // left -1: not armed
	for i := range 400 {
		n, b := next(size+4)-2, byte(i)
		switch next(12) {
		case 0:
			d.Restart()
			down, left = false, -1
		case 1:
			k, want := next(8)-1, api.OK
			if k < 0 {
				want = api.ErrArg
			} else if down {
				want = api.ErrDiskDown
			} else {
				left = k
			}
			arm(t, d, k, want)
		case 2:
			d = d.Copy()
		case 3, 4:
			want, code := fullOf(0), api.OK
			if down {
				code = api.ErrDiskDown
			} else if n < 0 || n >= size {
				code = api.ErrDiskPlace
			} else {
				want = h.image()[n]
			}
			if s, e := d.Read(n); s != want || e != code {
				t.Fatalf("seed %d, step %d: Read(%d): %v, %d; want %v, %d", seed, i, n, s, e, want, code)
			}
		default:
			want := api.OK
			if down {
				want = api.ErrDiskDown
			} else if n < 0 || n >= size {
				want = api.ErrDiskPlace
			} else if left == 0 {
				want, down = api.ErrDiskDown, true
			} else {
				h.done = append(h.done, done{n, b})
				left = max(left-1, -1)
			}
			write(t, d, n, b, want)
		}
		has(t, d, h.image(), len(h.done), down)
		if t.Failed() {
			t.Fatalf("seed %d, step %d", seed, i)
		}
	}
}

func TestWhatStandsIsWhatWasWrittenLast(t *testing.T) { // P2.8
	for seed := range uint32(60) {
		play(t, seed)
	}
}
