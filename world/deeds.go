package world

import (
	"bytes"

	"breakwater/api"
)

// doing is what a line does: what is told of it behind its word, or why it is refused.
type doing func(*world, said) (string, api.Errno)

// deed is what lines of one word do, and which forms they have.
type deed struct {
	do    doing
	forms []string
}

// deeds gives them by their words; the disk's line is not among them, since it is none that is played.
func deeds() map[string]deed {
	return map[string]deed{
		"create":   {operation(api.OpCreate, pathMade, tellStat), []string{"create PATH", "create PATH made N"}},
		"mkdir":    {operation(api.OpMkdir, pathMade, tellStat), []string{"mkdir PATH", "mkdir PATH made N"}},
		"link":     {operation(api.OpLink, pathTo, tellDone), []string{"link PATH PATH"}},
		"rename":   {operation(api.OpRename, pathTo, tellDone), []string{"rename PATH PATH"}},
		"unlink":   {operation(api.OpUnlink, pathAlone, tellDone), []string{"unlink PATH"}},
		"rmdir":    {operation(api.OpRmdir, pathAlone, tellDone), []string{"rmdir PATH"}},
		"write":    {operation(api.OpWrite, pathOffData, tellDone), []string{"write PATH at N HEX"}},
		"fill":     {operation(api.OpWrite, pathOffFill, tellDone), []string{"fill PATH at N with N times TIMES"}},
		"truncate": {operation(api.OpTruncate, pathOff, tellDone), []string{"truncate PATH to N"}},
		"read":     {operation(api.OpRead, pathOffLen, tellData), []string{"read PATH at N len N"}},
		"stat":     {operation(api.OpStat, pathAlone, tellStat), []string{"stat PATH"}},
		"list":     {operation(api.OpList, pathAlone, tellEntries), []string{"list PATH"}},
		"sync":     {operation(api.OpSync, nothing, tellDone), []string{"sync"}},
		"fsync":    {operation(api.OpFsync, pathAlone, tellDone), []string{"fsync PATH"}},
		"flush":    {operation(api.OpFlush, pickAlone, tellLanded), []string{"flush N"}},
		"room":     {asking((*world).room), []string{"room"}},
		"dirty":    {asking((*world).dirty), []string{"dirty"}},
		"dump":     {asking((*world).dump), []string{"dump"}},
		"arm":      {(*world).arm, []string{"arm N"}},
		"cut":      {(*world).cut, []string{"cut"}},
		"spoil":    {(*world).spoil, []string{"spoil N at N byte N"}},
	}
}

// asking is what a line does that asks the file system: without one it is refused.
func asking(do doing) doing {
	return func(w *world, s said) (string, api.Errno) {
		if w.isDead() {
			return "", api.ErrFSDead
		}
		return do(w, s)
	}
}

// operation is what a line does that is an operation of that kind; its fields are told by one function, its answer by another.
func operation(kind int, fields func(said) api.Op, tell func(api.Answer) string) doing {
	return asking(func(w *world, s said) (string, api.Errno) {
		o := fields(s)
		o.Kind = kind
		a := w.files.Do(o)
		return tell(a), a.Code
	})
}

func nothing(said) api.Op { return api.Op{} }

func pathAlone(s said) api.Op { return api.Op{Path: s.paths[0]} }

func pathTo(s said) api.Op { return api.Op{Path: s.paths[0], To: s.paths[1]} }

func pathOff(s said) api.Op { return api.Op{Path: s.paths[0], Off: s.numbers[0]} }

func pathOffLen(s said) api.Op {
	return api.Op{Path: s.paths[0], Off: s.numbers[0], Len: s.numbers[1]}
}

func pathOffData(s said) api.Op {
	return api.Op{Path: s.paths[0], Off: s.numbers[0], Data: s.data}
}

// pathOffFill makes the bytes when the line is played: those of all lines of a script would be too many to keep.
func pathOffFill(s said) api.Op {
	return api.Op{Path: s.paths[0], Off: s.numbers[0], Data: bytes.Repeat([]byte{byte(s.numbers[1])}, s.numbers[2])}
}

// pathMade takes both forms: Made may be left out.
func pathMade(s said) api.Op {
	o := pathAlone(s)
	for _, n := range s.numbers {
		o.Made = n
	}
	return o
}

func pickAlone(s said) api.Op { return api.Op{Pick: s.numbers[0]} }
