package fs_test

import (
	"strings"
	"testing"

	"breakwater/api"
)

func TestWriteAndRead(t *testing.T) { // P15.3: bytes at their places, holes as zeros, none from the end on
	r := wood(t)
	r.ok(write("/a", 126, []byte{1, 2, 3, 4}))
	r.stats("/a", api.Stat{Ino: 2, Kind: api.KindFile, Links: 1, Size: 130, Blocks: 2})
	r.is(read("/a", 125, 9), api.Answer{Data: []byte{0, 1, 2, 3, 4}})
	r.is(read("/a", 127, 2), api.Answer{Data: []byte{2, 3}})
	r.is(read("/a", 0, 0), api.Answer{})
	r.is(read("/a", 130, 5), api.Answer{})
	r.is(read("/a", 129, maxSize), api.Answer{Data: []byte{4}})
	r.is(read("/a", maxInt, 5), api.Answer{})
	r.ok(write("/a", 1536, []byte{9}))
	r.stats("/a", api.Stat{Ino: 2, Kind: api.KindFile, Links: 1, Size: 1537, Blocks: 4})
	r.is(read("/a", 1535, 2), api.Answer{Data: []byte{0, 9}})
	r.ok(write("/d/e/f", 0, []byte("other")))
	r.is(read("/a", 126, 4), api.Answer{Data: []byte{1, 2, 3, 4}})
	r.has("/d/e/f", "other")
}

const maxSize = api.MaxData

func TestBytesErrors(t *testing.T) { // P15.3: ErrFileKind of directories, ahead of ErrFileRange, and that ahead of ErrSpaceBlocks
	r := wood(t)
	r.ok(write("/a", 0, []byte("abc")))
	for _, dir := range []string{"/", "/d", "/g"} {
		r.no(write(dir, 0, []byte("x")), api.ErrFileKind)
		r.no(write(dir, -1, []byte("x")), api.ErrFileKind)
		r.no(read(dir, 0, 1), api.ErrFileKind)
		r.no(read(dir, -1, -1), api.ErrFileKind)
		r.no(truncate(dir, 0), api.ErrFileKind)
		r.no(truncate(dir, -1), api.ErrFileKind)
		r.no(fsync(dir), api.ErrFileKind)
	}
	for _, off := range []int{-1, minInt, api.MaxFile, api.MaxFile + 1, maxInt} {
		r.no(write("/a", off, []byte("x")), api.ErrFileRange)
	}
	r.no(write("/a", api.MaxFile-1, []byte("xy")), api.ErrFileRange)
	r.no(write("/a", 0, make([]byte, api.MaxData+1)), api.ErrFileRange)
	r.no(write("/a", 0, make([]byte, api.MaxData)), api.ErrSpaceBlocks)
	r.no(write("/a", -1, nil), api.ErrFileRange)
	for _, n := range []int{-1, minInt, api.MaxFile + 1, maxInt} {
		r.no(truncate("/a", n), api.ErrFileRange)
	}
	for _, x := range [][2]int{{-1, 0}, {0, -1}, {minInt, 1}, {0, minInt}, {0, api.MaxData + 1}, {0, maxInt}, {maxInt, maxInt}} {
		r.no(read("/a", x[0], x[1]), api.ErrFileRange)
	}
	r.has("/a", "abc")
}

func TestTheEndsOfASize(t *testing.T) { // P15.3: a write and a read at the end of what a file may have
	r := rigOf(t, 1200, 4)
	r.made(create("/a"), 2)
	r.ok(write("/a", api.MaxFile-1, []byte{5}))
	r.stats("/a", api.Stat{Ino: 2, Kind: api.KindFile, Links: 1, Size: api.MaxFile, Blocks: 3})
	r.is(read("/a", api.MaxFile-3, 9), api.Answer{Data: []byte{0, 0, 5}})
	r.is(read("/a", api.MaxFile, 9), api.Answer{})
	r.ok(write("/a", api.MaxFile-api.MaxData, sevens(api.MaxData)))
	r.is(read("/a", api.MaxFile-api.MaxData, api.MaxData), api.Answer{Data: sevens(api.MaxData)})
	r.is(read("/a", api.MaxFile-api.MaxData-2, 3), api.Answer{Data: []byte{0, 0, 7}})
	r.ok(truncate("/a", api.MaxFile), write("/a", api.MaxFile, nil), truncate("/a", 0), truncate("/a", api.MaxFile))
	r.stats("/a", api.Stat{Ino: 2, Kind: api.KindFile, Links: 1, Size: api.MaxFile})
	r.is(read("/a", api.MaxFile-1, 9), api.Answer{Data: []byte{0}})
	r.ok(truncate("/a", 0))
	r.room(1200-5-1, 0, 2)
}

func TestTruncate(t *testing.T) { // P15.3: cut off bytes are zeros when it grows again; what was there is free at once
	r := begin(t)
	r.made(create("/a"), 2)
	r.ok(write("/a", 0, []byte(strings.Repeat("x", 300))), truncate("/a", 130))
	r.room(28, 0, 6)
	r.has("/a", strings.Repeat("x", 130))
	r.ok(truncate("/a", 140))
	r.has("/a", strings.Repeat("x", 130)+strings.Repeat("\x00", 10))
	r.ok(truncate("/a", 140), truncate("/a", 0), truncate("/a", 2))
	r.has("/a", "\x00\x00")
	r.stats("/a", api.Stat{Ino: 2, Kind: api.KindFile, Links: 1, Size: 2})
	r.room(30, 0, 6)
}

func TestRoomThatIsLeft(t *testing.T) { // P15.3, P15.8, W7: ErrSpaceBlocks just where there is no room; what is free later is made free within
	r := rigOf(t, 8, 2) // 5 data sectors
	r.made(create("/a"), 2)
	r.no(mkdir("/b"), api.ErrSpaceInodes)
	r.ok(write("/a", 0, sevens(512)))
	r.room(0, 0, 0)
	r.no(write("/a", 512, sevens(1)), api.ErrSpaceBlocks)
	r.no(write("/a", 511, sevens(2)), api.ErrSpaceBlocks) // none of it is done
	r.ok(write("/a", 500, sevens(12)))
	r.no(link("/a", "/b"), api.ErrSpaceBlocks)
	r.no(rename("/a", "/b"), api.ErrSpaceBlocks)
	r.ok(unlink("/a"))
	r.room(4, 4, 1)
	r.made(create("/b"), 2)
	r.ok(write("/b", 0, sevens(512)))
	r.room(0, 0, 0)
	r.ok(truncate("/b", 0))
	r.room(4, 0, 0)
	r.no(write("/b", 5*128-1, sevens(3*128+2)), api.ErrSpaceBlocks) // a byte of block 4, and one of block 8
	r.ok(write("/b", 5*128-1, sevens(3*128+1)))                     // blocks 4 to 7
	r.room(0, 0, 0)
}

func TestNothingIsLeftOfARefusedWrite(t *testing.T) { // P15.9: also where a table would be wanted
	r := rigOf(t, 20, 4) // 15 data sectors
	r.made(create("/a"), 2)
	r.no(write("/a", 0, sevens(15*128)), api.ErrSpaceBlocks)
	r.no(write("/a", 0, sevens(14*128)), api.ErrSpaceBlocks) // and a table
	r.ok(write("/a", 0, sevens(13*128)))
	r.stats("/a", api.Stat{Ino: 2, Kind: api.KindFile, Links: 1, Size: 13 * 128, Blocks: 14})
	r.no(create("/b"), api.ErrSpaceBlocks)
	r.no(mkdir("/b"), api.ErrSpaceBlocks)
	r.ok(truncate("/a", 0))
	r.made(create("/b"), 3)
	r.ok(write("/b", 0, sevens(12*128)), unlink("/b"))
	r.room(13, 12, 2)
	r.ok(write("/a", 0, sevens(12*128)))
	r.room(1, 0, 2)
}
