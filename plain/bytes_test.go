package plain_test

import (
	"strings"
	"testing"

	"breakwater/api"
)

func TestWriteAndRead(t *testing.T) { // P16.2, P16.8: bytes at their places, holes as zeros, none from the end on
	r := wood(t)
	r.ok(write("/a", 126, []byte{1, 2, 3, 4}))
	r.sized("/a", 130, 2)
	r.is(read("/a", 125, 9), api.Answer{Data: []byte{0, 1, 2, 3, 4}})
	r.is(read("/a", 127, 2), api.Answer{Data: []byte{2, 3}})
	r.is(read("/a", 0, 0), api.Answer{})
	r.is(read("/a", 129, api.MaxData), api.Answer{Data: []byte{4}})
	r.ok(write("/a", 127, []byte{8, 9}), write("/a", 0, []byte{7}))
	r.is(read("/a", 124, 9), api.Answer{Data: []byte{0, 0, 1, 8, 9, 4}})
	r.sized("/a", 130, 2)
	r.ok(write("/a", 1536, []byte{9}))
	r.sized("/a", 1537, 4)
	r.is(read("/a", 1535, 2), api.Answer{Data: []byte{0, 9}})
	r.ok(write("/d/e/f", 0, []byte("other")))
	r.is(read("/a", 126, 4), api.Answer{Data: []byte{1, 8, 9, 4}})
	r.has("/d/e/f", "other")
}

func TestReadAtTheEnd(t *testing.T) { // P16.2: at Size and behind it there is nothing
	r := wood(t)
	for _, size := range []int{0, 1, 127, 128, 129, 300} {
		r.ok(truncate("/a", 0), write("/a", 0, sevens(size)))
		for _, off := range []int{size, size + 1, size + 127, size + 128, api.MaxFile, api.MaxFile + 1, 1 << 32, maxInt - api.MaxData, maxInt} {
			r.is(read("/a", off, 0), api.Answer{})
			r.is(read("/a", off, 1), api.Answer{})
			r.is(read("/a", off, api.MaxData), api.Answer{})
		}
		if size > 0 {
			r.is(read("/a", size-1, 9), api.Answer{Data: []byte{7}})
			r.is(read("/a", 0, size), api.Answer{Data: sevens(size)})
			r.is(read("/a", 0, size+1), api.Answer{Data: sevens(size)})
			r.is(read("/a", 0, size-1), api.Answer{Data: sevens(size - 1)})
		}
	}
}

func TestBytesErrors(t *testing.T) { // P16.2: ErrFileKind of directories, ahead of ErrFileRange, and that ahead of ErrSpaceBlocks
	r := wood(t)
	r.ok(write("/a", 0, []byte("abc")))
	for _, dir := range []string{"/", "/d", "/g"} {
		r.no(write(dir, 0, []byte("x")), api.ErrFileKind)
		r.no(write(dir, -1, []byte("x")), api.ErrFileKind)
		r.no(write(dir, 0, make([]byte, api.MaxData+1)), api.ErrFileKind)
		r.no(read(dir, 0, 1), api.ErrFileKind)
		r.no(read(dir, -1, -1), api.ErrFileKind)
		r.no(truncate(dir, 0), api.ErrFileKind)
		r.no(truncate(dir, -1), api.ErrFileKind)
		r.no(fsync(dir), api.ErrFileKind)
	}
	for _, off := range []int{-1, minInt, api.MaxFile, api.MaxFile + 1, maxInt} {
		r.no(write("/a", off, []byte("x")), api.ErrFileRange)
	}
	r.no(write("/a", api.MaxFile-1, []byte("xy")), api.ErrFileRange)
	r.no(write("/a", 0, make([]byte, api.MaxData+1)), api.ErrFileRange)
	r.no(write("/a", 0, make([]byte, api.MaxFile)), api.ErrFileRange)
	r.no(write("/a", 0, make([]byte, api.MaxData)), api.ErrSpaceBlocks)
	r.no(write("/a", api.MaxFile-api.MaxData+1, make([]byte, api.MaxData)), api.ErrFileRange)
	r.no(write("/a", -1, nil), api.ErrFileRange)
	r.no(write("/a", api.MaxFile+1, nil), api.ErrFileRange)
	for _, n := range []int{-1, minInt, api.MaxFile + 1, maxInt} {
		r.no(truncate("/a", n), api.ErrFileRange)
	}
	for _, x := range [][2]int{{-1, 0}, {0, -1}, {minInt, 1}, {0, minInt}, {0, api.MaxData + 1}, {0, maxInt}, {maxInt, maxInt}, {9, -1}, {maxInt, -1}} {
		r.no(read("/a", x[0], x[1]), api.ErrFileRange)
	}
	r.has("/a", "abc")
}

func TestTheEndsOfASize(t *testing.T) { // P16.2: a write and a read at the end of what a file may have
	r := rigOf(t, 1200, 4)
	r.made(create("/a"), 2)
	r.ok(write("/a", api.MaxFile-1, []byte{5}))
	r.sized("/a", api.MaxFile, 3)
	r.is(read("/a", api.MaxFile-3, 9), api.Answer{Data: []byte{0, 0, 5}})
	r.is(read("/a", api.MaxFile, 9), api.Answer{})
	r.ok(write("/a", api.MaxFile-api.MaxData, sevens(api.MaxData)))
	r.sized("/a", api.MaxFile, 1024+33)
	r.is(read("/a", api.MaxFile-api.MaxData, api.MaxData), api.Answer{Data: sevens(api.MaxData)})
	r.is(read("/a", api.MaxFile-api.MaxData-2, 3), api.Answer{Data: []byte{0, 0, 7}})
	r.ok(write("/a", 0, sevens(api.MaxFile-api.MaxData)))
	r.sized("/a", api.MaxFile, api.MaxBlocks+34)
	r.ok(truncate("/a", api.MaxFile), write("/a", api.MaxFile, nil))
	r.sized("/a", api.MaxFile, api.MaxBlocks+34)
	r.ok(truncate("/a", 0), truncate("/a", api.MaxFile))
	r.sized("/a", api.MaxFile, 0)
	r.is(read("/a", api.MaxFile-1, 9), api.Answer{Data: []byte{0}})
	r.ok(truncate("/a", 0))
	r.room(1200-5-1, 2)
}

func TestTables(t *testing.T) { // P16.2, P16.3: which blocks want which tables; each by itself, and beside its neighbour
	for _, x := range []struct{ first, alone, next int }{
		{0, 1, 1}, {10, 1, 1}, {11, 1, 2}, {12, 2, 1}, {42, 2, 1}, {43, 2, 3}, {44, 3, 1}, {74, 3, 1}, {75, 3, 2}, {76, 3, 1}, {107, 3, 2}, {1035, 3, 2}, {1036, 3, 1}, {1066, 3, 1},
	} {
		r := wood(t)
		r.ok(write("/a", x.first*128+127, []byte{1}))
		r.sized("/a", x.first*128+128, x.alone)
		r.room(44-x.alone, 2)
		r.ok(write("/a", x.first*128+127, []byte{2, 3})) // across the edge
		r.sized("/a", x.first*128+129, x.alone+x.next)
		r.room(44-x.alone-x.next, 2)
		r.is(read("/a", x.first*128+126, 9), api.Answer{Data: []byte{0, 2, 3}})
		r.ok(truncate("/a", x.first*128+128))
		r.sized("/a", x.first*128+128, x.alone)
		r.ok(unlink("/a"))
		r.room(44, 3)
	}
}

func TestAllTables(t *testing.T) { // P16.2: one block of each table's, and so many tables
	r := rigOf(t, 200, 4)
	r.made(create("/a"), 2)
	r.ok(write("/a", 0, []byte{1}), write("/a", 20*128, []byte{1}))
	r.sized("/a", 20*128+1, 3)
	for k := range 32 {
		r.ok(write("/a", (44+32*k)*128, []byte{1}))
		r.sized("/a", (44+32*k)*128+1, 3+1+2*(k+1))
	}
	r.ok(truncate("/a", 44*128))
	r.sized("/a", 44*128, 3)
	r.ok(truncate("/a", 20*128))
	r.sized("/a", 20*128, 1)
}

func TestOverHoles(t *testing.T) { // P16.2, P16.8: a write takes just the holes that it touches; what was between stays zero
	r := begin(t)
	r.made(create("/a"), 2)
	r.ok(write("/a", 1000, []byte("end")))
	r.sized("/a", 1003, 1)
	r.ok(write("/a", 200, []byte("mid")))
	r.sized("/a", 1003, 2)
	r.has("/a", strings.Repeat("\x00", 200)+"mid"+strings.Repeat("\x00", 797)+"end")
	r.ok(write("/a", 120, sevens(300)))
	r.sized("/a", 1003, 5) // blocks 0 to 3, and 7
	r.has("/a", strings.Repeat("\x00", 120)+strings.Repeat("\x07", 300)+strings.Repeat("\x00", 580)+"end")
	r.ok(write("/a", 500, make([]byte, 200))) // zeros that are written are no holes
	r.sized("/a", 1003, 7)
	r.room(31-1-7, 6)
}

func TestTruncate(t *testing.T) { // P16.2, P16.8: within a block, at its edge, above Size, to 0; cut off bytes are zeros when it grows again
	whole := strings.Repeat("x", 300)
	for _, x := range []struct{ size, blocks int }{{0, 0}, {1, 1}, {127, 1}, {128, 1}, {129, 2}, {255, 2}, {256, 2}, {257, 3}, {299, 3}, {300, 3}, {301, 3}, {384, 3}, {385, 3}, {5000, 3}} {
		r := begin(t)
		r.made(create("/a"), 2)
		r.ok(write("/a", 0, []byte(whole)), truncate("/a", x.size))
		left := whole[:min(x.size, 300)] + strings.Repeat("\x00", max(0, x.size-300))
		r.has("/a", left)
		r.sized("/a", x.size, x.blocks)
		r.room(30-x.blocks, 6)
		r.ok(truncate("/a", 5500))
		r.has("/a", left+strings.Repeat("\x00", 5500-x.size))
		r.sized("/a", 5500, x.blocks)
		r.ok(write("/a", 5500, []byte("y")))
		r.has("/a", left+strings.Repeat("\x00", 5500-x.size)+"y")
	}
	r := begin(t)
	r.made(create("/a"), 2)
	r.ok(write("/a", 0, []byte(whole)), truncate("/a", 130), write("/a", 200, []byte("y")))
	r.has("/a", whole[:130]+strings.Repeat("\x00", 70)+"y")
	r.ok(truncate("/a", 0), truncate("/a", 2))
	r.has("/a", "\x00\x00")
	r.sized("/a", 2, 0)
	r.room(30, 6)
}

func TestTruncateAtTables(t *testing.T) { // P16.2: what is behind goes, with its tables
	r := rigOf(t, 200, 4)
	r.made(create("/a"), 2)
	for _, x := range []struct{ blocks, sectors int }{{110, 110 + 5}, {109, 114}, {108, 112}, {77, 81}, {76, 79}, {45, 48}, {44, 45}, {13, 14}, {12, 12}, {1, 1}, {0, 0}} {
		r.ok(truncate("/a", 0), write("/a", 0, sevens(110*128)), truncate("/a", x.blocks*128))
		r.sized("/a", x.blocks*128, x.sectors)
		r.room(195-1-x.sectors, 2)
	}
}

func TestJustRoom(t *testing.T) { // P16.2, W7: a write for which there is just room, and one sector less; none of it is done then
	for _, x := range []struct{ first, blocks, sectors int }{
		{0, 1, 1}, {0, 12, 12}, {0, 13, 14}, {11, 2, 3}, {12, 3, 4}, {43, 1, 2}, {43, 2, 5}, {44, 1, 3}, {75, 2, 5}, {1067, 1, 3}, {0, 24, 25},
	} {
		r := wood(t)
		r.fill("/d/b", x.sectors)
		data := sevens(x.blocks * 128)
		r.ok(write("/a", x.first*128, data))
		r.sized("/a", (x.first+x.blocks)*128, x.sectors)
		r.room(0, 2)

		r = wood(t)
		r.fill("/d/b", x.sectors-1)
		r.no(write("/a", x.first*128, data), api.ErrSpaceBlocks)
		r.no(write("/a", x.first*128, data[:len(data)-127]), api.ErrSpaceBlocks)
		r.no(write("/a", x.first*128, nil), api.OK)
		r.ok(truncate("/d/b", 0), write("/a", x.first*128, data))
	}
}

func TestWritesThatTakeNothing(t *testing.T) { // P16.2, W7: with no sector left, what is there is written, and a file grows by holes
	r := wood(t)
	r.ok(write("/a", 100, sevens(200)))
	r.fill("/d/b", 0)
	r.ok(write("/a", 0, []byte("start")), write("/a", 380, sevens(4)))
	r.no(write("/a", 380, sevens(5)), api.ErrSpaceBlocks)
	r.sized("/a", 384, 3)
	r.ok(truncate("/a", api.MaxFile))
	r.no(write("/a", 384, sevens(1)), api.ErrSpaceBlocks)
	r.no(create("/x"), api.ErrSpaceBlocks)
	r.no(mkdir("/d/x"), api.ErrSpaceBlocks)
	r.no(link("/a", "/g/x"), api.ErrSpaceBlocks)
	r.no(rename("/a", "/x"), api.ErrSpaceBlocks)
	r.no(rename("/g", "/x"), api.ErrSpaceBlocks)
	r.ok(truncate("/a", 257))
	r.no(create("/x"), api.ErrSpaceBlocks)
	r.ok(truncate("/a", 256))
	r.made(create("/x"), 8)
	r.no(create("/y"), api.ErrSpaceBlocks)
	r.ok(rename("/x", "/a"))
	r.room(2, 2)
}

func TestFlushSyncFsync(t *testing.T) { // P16.2: nothing is done, nothing has landed
	r := wood(t)
	r.ok(write("/a", 0, sevens(200)))
	for _, n := range []int{0, 1, 2, 9, 10, 11, 59, 60, 61, -1, 9999, minInt, maxInt} {
		r.no(flush(n), api.OK)
	}
	r.no(fsync("/a"), api.OK)
	r.no(fsync("/d/b"), api.OK)
	r.no(sync(), api.OK)
	r.no(fsync("/g"), api.ErrFileKind)
	r.no(fsync("/n"), api.ErrDirNone)
	r.no(fsync("/a/b"), api.ErrDirKind)
}
