package world

import (
	"strconv"
	"strings"

	"breakwater/api"
)

// done is told of what has nothing else to tell.
const done = "ok"

// inner stands ahead of each line that belongs to another one.
const inner = "\n  "

// phrase is words with one blank between each two.
func phrase(words ...string) string { return strings.Join(words, " ") }

// kindWord tells a kind.
func kindWord(kind int) string {
	if kind == api.KindDir {
		return "dir"
	}
	return "file"
}

func tellDone(api.Answer) string { return done }

func tellStat(a api.Answer) string {
	s := a.Stat
	return phrase(done, "inode", strconv.Itoa(s.Ino), kindWord(s.Kind), "links", strconv.Itoa(s.Links),
		"size", strconv.Itoa(s.Size), "made", strconv.Itoa(s.Made), "blocks", strconv.Itoa(s.Blocks))
}

func tellData(a api.Answer) string {
	if len(a.Data) == 0 {
		return phrase(done, "-")
	}
	return phrase(done, hex(a.Data))
}

func tellEntries(a api.Answer) string {
	var out strings.Builder
	out.WriteString(phrase(done, strconv.Itoa(len(a.Entries))))
	for _, e := range a.Entries {
		out.WriteString(inner + phrase(signs(e.Name), strconv.Itoa(e.Ino), kindWord(e.Kind)))
	}
	return out.String()
}

func tellLanded(a api.Answer) string {
	if a.Landed {
		return phrase(done, "landed")
	}
	return done
}

func tellRoom(r api.Room) string {
	return phrase(strconv.Itoa(r.Blocks), strconv.Itoa(r.Later), strconv.Itoa(r.Inodes))
}

func tellSectors(sectors []int) string {
	words := []string{strconv.Itoa(len(sectors))}
	for _, n := range sectors {
		words = append(words, strconv.Itoa(n))
	}
	return phrase(words...)
}

func tellNodes(nodes []api.Node) string {
	var out strings.Builder
	out.WriteString(strconv.Itoa(len(nodes)))
	for _, n := range nodes {
		out.WriteString(inner + phrase(nodeWords(n)...))
	}
	return out.String()
}

func nodeWords(n api.Node) []string {
	words := []string{signs(n.Path), kindWord(n.Kind), "made", strconv.Itoa(n.Made)}
	switch {
	case n.Kind == api.KindDir:
		return words
	case n.Same != "":
		return append(words, "same", signs(n.Same))
	}
	return append(words, "size", strconv.Itoa(len(n.Data)))
}

func tellMount(r api.Report) string { return phrase(done, strconv.Itoa(len(r.Write))) }
