package checks

import (
	"testing"

	"breakwater/api"
)

func TestLimits(t *testing.T) {
	for _, c := range []struct {
		name      string
		got, want int
	}{
		{"SectorSize", api.SectorSize, 128}, {"MinSectors", api.MinSectors, 8}, {"MaxSectors", api.MaxSectors, 4096}, {"MaxInodes", api.MaxInodes, 512},
		{"Direct", api.Direct, 12}, {"PerSector", api.PerSector, 32}, {"MaxBlocks", api.MaxBlocks, 1068}, {"MaxFile", api.MaxFile, 136704},
		{"MaxLinks", api.MaxLinks, 100}, {"MaxName", api.MaxName, 40}, {"MaxPath", api.MaxPath, 400}, {"MaxMade", api.MaxMade, 1 << 40},
		{"MaxData", api.MaxData, 1 << 17}, {"MaxJobs", api.MaxJobs, 64}, {"MaxScript", api.MaxScript, 1 << 16}, {"MaxLines", api.MaxLines, 2000}, {"Root", api.Root, 1},
		{"KindFree", api.KindFree, 0}, {"KindFile", api.KindFile, 1}, {"KindDir", api.KindDir, 2},
		{"OpCreate", api.OpCreate, 1}, {"OpMkdir", api.OpMkdir, 2}, {"OpLink", api.OpLink, 3}, {"OpUnlink", api.OpUnlink, 4}, {"OpRmdir", api.OpRmdir, 5},
		{"OpRename", api.OpRename, 6}, {"OpWrite", api.OpWrite, 7}, {"OpTruncate", api.OpTruncate, 8}, {"OpRead", api.OpRead, 9}, {"OpStat", api.OpStat, 10},
		{"OpList", api.OpList, 11}, {"OpSync", api.OpSync, 12}, {"OpFsync", api.OpFsync, 13}, {"OpFlush", api.OpFlush, 14},
	} {
		if c.got != c.want {
			t.Errorf("%s is %d, want %d", c.name, c.got, c.want)
		}
	}
	if len(api.Sector{}) != 128 || len(api.Pointers{}) != 32 || len(api.Inode{}.Direct) != 12 {
		t.Error("an array's length is none of the limits")
	}
}

func TestErrors(t *testing.T) {
	for _, c := range []struct {
		name string
		got  api.Errno
		want int
	}{
		{"OK", api.OK, 0}, {"ErrArg", api.ErrArg, 1},
		{"ErrSectorPlace", api.ErrSectorPlace, 10}, {"ErrSectorValue", api.ErrSectorValue, 11},
		{"ErrDiskSize", api.ErrDiskSize, 20}, {"ErrDiskPlace", api.ErrDiskPlace, 21}, {"ErrDiskDown", api.ErrDiskDown, 22},
		{"ErrGraphCycle", api.ErrGraphCycle, 30}, {"ErrCachePlace", api.ErrCachePlace, 40},
		{"ErrBitsSize", api.ErrBitsSize, 50}, {"ErrBitsPlace", api.ErrBitsPlace, 51},
		{"ErrLayoutSuper", api.ErrLayoutSuper, 60}, {"ErrLayoutInode", api.ErrLayoutInode, 61}, {"ErrLayoutPointers", api.ErrLayoutPointers, 62}, {"ErrLayoutSlot", api.ErrLayoutSlot, 63},
		{"ErrPathForm", api.ErrPathForm, 70}, {"ErrPathName", api.ErrPathName, 71},
		{"ErrSpaceBlocks", api.ErrSpaceBlocks, 80}, {"ErrSpaceInodes", api.ErrSpaceInodes, 81}, {"ErrSpacePlace", api.ErrSpacePlace, 82},
		{"ErrBlocksIndex", api.ErrBlocksIndex, 90},
		{"ErrFileInode", api.ErrFileInode, 100}, {"ErrFileRange", api.ErrFileRange, 101}, {"ErrFileKind", api.ErrFileKind, 102},
		{"ErrDirNone", api.ErrDirNone, 110}, {"ErrDirThere", api.ErrDirThere, 111}, {"ErrDirFull", api.ErrDirFull, 112}, {"ErrDirKind", api.ErrDirKind, 113},
		{"ErrLookSuper", api.ErrLookSuper, 120}, {"ErrLookRoot", api.ErrLookRoot, 121},
		{"ErrTreeFull", api.ErrTreeFull, 140}, {"ErrTreeLoop", api.ErrTreeLoop, 141}, {"ErrTreeLinks", api.ErrTreeLinks, 142}, {"ErrTreeRoot", api.ErrTreeRoot, 143},
		{"ErrFSOp", api.ErrFSOp, 150}, {"ErrFSDead", api.ErrFSDead, 151}, {"ErrPlainSize", api.ErrPlainSize, 160},
		{"ErrDumpBytes", api.ErrDumpBytes, 170}, {"ErrDumpNode", api.ErrDumpNode, 171}, {"ErrShareOp", api.ErrShareOp, 180}, {"ErrFrontAsk", api.ErrFrontAsk, 190},
		{"ErrWorldLong", api.ErrWorldLong, 200}, {"ErrWorldLine", api.ErrWorldLine, 201},
	} {
		if int(c.got) != c.want {
			t.Errorf("%s is %d, want %d", c.name, int(c.got), c.want)
		}
	}
	var err error = api.ErrSectorValue
	if err.Error() != "breakwater: error 11" {
		t.Errorf("Error() tells %q", err.Error())
	}
}
