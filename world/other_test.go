package world_test

import (
	"encoding/hex"
	"fmt"
	"math/big"
	"regexp"
	"strings"

	"breakwater/api"
	"breakwater/disk"
	"breakwater/dump"
	"breakwater/fs"
)

// The chapter's words, told in another way: lines are known by patterns, and file systems are asked by calls.

// other is a disk, and the file system on it, if there is one.
type other struct {
	d *disk.Disk
	f *fs.FS
}

// pattern is what lines look like, and what is told of one, by what stands at its open places.
type pattern struct {
	form
	asks bool
	do   func(o *other, m []string) string
}

// form is a line's, and what its open places are for.
type form struct {
	exp    *regexp.Regexp
	places []string
}

var (
	wordExp  = regexp.MustCompile(`[^ \t]+`)
	diskForm = formOf("disk N inodes N")
	patterns = allPatterns()
)

// formOf makes the form that a text says.
func formOf(text string) form {
	f := form{places: []string{"LINE"}}
	exp := regexp.MustCompile(`\b(PATH|HEX|N)\b`).ReplaceAllStringFunc(text, func(place string) string {
		f.places = append(f.places, place)
		return map[string]string{"PATH": "([^ ]+)", "HEX": "((?:[0-9a-f][0-9a-f])+)", "N": "(0|[1-9][0-9]*)"}[place]
	})
	f.exp = regexp.MustCompile(`^(?:` + exp + `)$`)
	return f
}

// match is what stands at the places of a line that has the form.
func (f form) match(line string) []string {
	m := f.exp.FindStringSubmatch(line)
	for k := range m {
		if n, ok := new(big.Int).SetString(m[k], 10); f.places[k] == "N" && (!ok || n.BitLen() > 62 && m[k] != most) {
			return nil
		}
	}
	return m
}

// num is a number that is not too great.
func num(s string) int {
	n, _ := new(big.Int).SetString(s, 10)
	return int(n.Int64())
}

func allPatterns() []pattern {
	var all []pattern
	ask := func(text string, do func(o *other, m []string) string) {
		all = append(all, pattern{formOf(text), true, do})
	}
	op := func(text string, of func(m []string) api.Op) {
		ask(text, func(o *other, m []string) string { return o.operation(of(m)) })
	}
	op("create PATH", func(m []string) api.Op { return api.Op{Kind: 1, Path: m[1]} })
	op("create PATH made N", func(m []string) api.Op { return api.Op{Kind: 1, Path: m[1], Made: num(m[2])} })
	op("mkdir PATH", func(m []string) api.Op { return api.Op{Kind: 2, Path: m[1]} })
	op("mkdir PATH made N", func(m []string) api.Op { return api.Op{Kind: 2, Path: m[1], Made: num(m[2])} })
	op("link PATH PATH", func(m []string) api.Op { return api.Op{Kind: 3, Path: m[1], To: m[2]} })
	op("unlink PATH", func(m []string) api.Op { return api.Op{Kind: 4, Path: m[1]} })
	op("rmdir PATH", func(m []string) api.Op { return api.Op{Kind: 5, Path: m[1]} })
	op("rename PATH PATH", func(m []string) api.Op { return api.Op{Kind: 6, Path: m[1], To: m[2]} })
	op("write PATH at N HEX", func(m []string) api.Op {
		data, _ := hex.DecodeString(m[3])
		return api.Op{Kind: 7, Path: m[1], Off: num(m[2]), Data: data}
	})
	op("fill PATH at N with N times N", func(m []string) api.Op {
		return api.Op{Kind: 7, Path: m[1], Off: num(m[2]), Data: []byte(strings.Repeat(string([]byte{byte(num(m[3]))}), num(m[4])))}
	})
	op("truncate PATH to N", func(m []string) api.Op { return api.Op{Kind: 8, Path: m[1], Off: num(m[2])} })
	op("read PATH at N len N", func(m []string) api.Op {
		return api.Op{Kind: 9, Path: m[1], Off: num(m[2]), Len: num(m[3])}
	})
	op("stat PATH", func(m []string) api.Op { return api.Op{Kind: 10, Path: m[1]} })
	op("list PATH", func(m []string) api.Op { return api.Op{Kind: 11, Path: m[1]} })
	op("sync", func(m []string) api.Op { return api.Op{Kind: 12} })
	op("fsync PATH", func(m []string) api.Op { return api.Op{Kind: 13, Path: m[1]} })
	op("flush N", func(m []string) api.Op { return api.Op{Kind: 14, Pick: num(m[1])} })
	ask("room", func(o *other, m []string) string {
		r := o.f.Room()
		return fmt.Sprintf("%d %d %d", r.Blocks, r.Later, r.Inodes)
	})
	ask("dirty", func(o *other, m []string) string {
		l := o.f.Dirty()
		return strings.TrimSpace(fmt.Sprintf("%d %s", len(l), strings.Trim(fmt.Sprint(l), "[]")))
	})
	ask("dump", func(o *other, m []string) string { return o.dump() })
	for text, do := range map[string]func(o *other, m []string) string{
		"arm N":               func(o *other, m []string) string { return fine(o.d.Arm(num(m[1])), "ok") },
		"cut":                 func(o *other, m []string) string { return o.cut() },
		"spoil N at N byte N": func(o *other, m []string) string { return o.spoil(num(m[1]), num(m[2]), num(m[3])) },
	} {
		all = append(all, pattern{formOf(text), false, do})
	}
	return all
}

func fine(e api.Errno, told string) string {
	if e != api.OK {
		return fmt.Sprint("refused ", int(e))
	}
	return told
}

// escaped is a name byte by byte.
func escaped(s string) string {
	var b strings.Builder
	for k := 0; k < len(s); k++ {
		if c := s[k]; c < 33 || c > 126 || c == '%' {
			fmt.Fprintf(&b, "%%%02x", c)
		} else {
			b.WriteByte(c)
		}
	}
	return b.String()
}

func kindName(k int) string { return [3]string{"free", "file", "dir"}[k] }

func (o *other) operation(x api.Op) string {
	a := o.f.Do(x)
	b := "ok"
	switch x.Kind {
	case 1, 2, 10:
		s := a.Stat
		b = fmt.Sprintf("ok inode %d %s links %d size %d made %d blocks %d", s.Ino, kindName(s.Kind), s.Links, s.Size, s.Made, s.Blocks)
	case 9:
		b = fmt.Sprintf("ok %x", a.Data)
		if len(a.Data) == 0 {
			b = "ok -"
		}
	case 11:
		b = fmt.Sprintf("ok %d", len(a.Entries))
		for _, n := range a.Entries {
			b += fmt.Sprintf("\n  %s %d %s", escaped(n.Name), n.Ino, kindName(n.Kind))
		}
	case 14:
		if a.Landed {
			b = "ok landed"
		}
	}
	return fine(a.Code, b)
}

func (o *other) dump() string {
	nodes, e := dump.Dump(o.f)
	b := fmt.Sprint(len(nodes))
	for _, n := range nodes {
		b += fmt.Sprintf("\n  %s %s made %d", escaped(n.Path), kindName(n.Kind), n.Made)
		if n.Kind == api.KindFile && n.Same != "" {
			b += " same " + escaped(n.Same)
		} else if n.Kind == api.KindFile {
			b += fmt.Sprintf(" size %d", len(n.Data))
		}
	}
	return fine(e, b)
}

func (o *other) cut() string {
	o.d.Restart()
	f, r, e := fs.Mount(o.d)
	o.f = f
	return fine(e, fmt.Sprintf("ok %d", len(r.Write)))
}

func (o *other) spoil(n, at, b int) string {
	o.f = nil
	o.d.Restart()
	s, e := o.d.Read(n)
	if e == api.OK {
		s[at&127] = byte(b & 255)
		e = o.d.Write(n, s)
	}
	return fine(e, "ok")
}

// otherLine is what is told of a line; whether it is one.
func otherLine(line string) (pattern, []string, bool) {
	for _, p := range patterns {
		m := p.match(line)
		if m == nil || strings.HasPrefix(line, "fill ") && num(m[4]) > 131073 {
			continue
		}
		return p, m, true
	}
	return pattern{}, nil, false
}

// said are the lines that say something, each with one blank between two words, by their numbers.
func said(script string) ([]string, []int) {
	var lines []string
	var at []int
	for k, l := range strings.Split(script, "\n") {
		if c := strings.IndexByte(l, '#'); c >= 0 {
			l = l[:c]
		}
		if words := wordExp.FindAllString(l, -1); words != nil {
			lines, at = append(lines, strings.Join(words, " ")), append(at, k+1)
		}
	}
	return lines, at
}

// otherRun is what Run should answer.
func otherRun(script string) (string, int, api.Errno) {
	lines, at := said(script)
	if len(script) > 65536 || len(lines) > 2000 {
		return "", 0, 200
	}
	if len(lines) == 0 {
		return "", 1 + strings.Count(script, "\n"), 201
	}
	first := diskForm.match(lines[0])
	if first == nil {
		return "", at[0], 201
	}
	for k := 1; k < len(lines); k++ {
		if _, _, ok := otherLine(lines[k]); !ok {
			return "", at[k], 201
		}
	}
	o := &other{}
	var e api.Errno
	if o.d, e = disk.New(num(first[1])); e != api.OK {
		return "", at[0], 201
	}
	if e := fs.Mkfs(o.d, num(first[2])); e != api.OK {
		return "", at[0], 201
	}
	if o.f, _, e = fs.Mount(o.d); e != api.OK {
		return "", at[0], 201
	}
	return o.transcript(lines[1:], at[1:]), 0, 0
}

// transcript is that of the lines behind the disk's.
func (o *other) transcript(lines []string, at []int) string {
	var b strings.Builder
	for k, l := range lines {
		p, m, _ := otherLine(l)
		told := "refused 151"
		if !p.asks || o.f != nil && !o.d.Down() {
			told = p.do(o, m)
		}
		fmt.Fprintf(&b, "%d %s %s\n", at[k], strings.Split(l, " ")[0], told)
	}
	return b.String()
}
