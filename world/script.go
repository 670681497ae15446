package world

import (
	"strings"

	"breakwater/api"
)

// diskForm is the form of the line with which each script begins, and which stands nowhere else.
const diskForm = "disk N inodes N"

// line is one that says something.
type line struct {
	at    int // which of the script's it is, from 1 on
	words []string
	said
}

// said is what stands in a line where its form leaves a place, in order.
type said struct {
	paths   []string
	numbers []int
	data    []byte
}

// read is a script's lines, the disk's first; with an error the line. All of them are held to their forms ahead of playing any.
func read(script string) ([]line, int, api.Errno) {
	if len(script) > api.MaxScript {
		return nil, 0, api.ErrWorldLong
	}
	lines := spoken(script)
	if len(lines) > api.MaxLines {
		return nil, 0, api.ErrWorldLong
	}
	if len(lines) == 0 {
		return nil, strings.Count(script, "\n") + 1, api.ErrWorldLine
	}
	if at := understand(lines); at != 0 {
		return nil, at, api.ErrWorldLine
	}
	return lines, 0, api.OK
}

// spoken are the lines that say something.
func spoken(script string) []line {
	var all []line
	for k, text := range strings.Split(script, "\n") {
		text, _, _ = strings.Cut(text, "#")
		if words := strings.FieldsFunc(text, isBlank); len(words) > 0 {
			all = append(all, line{at: k + 1, words: words})
		}
	}
	return all
}

func isBlank(c rune) bool { return c == ' ' || c == '\t' }

// understand finds what the lines say; it tells the first one that is none, 0 if there is no such.
func understand(lines []line) int {
	all := deeds()
	for k := range lines {
		l := &lines[k]
		forms := []string{diskForm}
		if k > 0 {
			forms = all[l.words[0]].forms
		}
		if !l.fit(forms) {
			return l.at
		}
	}
	return 0
}

// fit finds what the line says by the form that it has, if it has one of these.
func (l *line) fit(forms []string) bool {
nextForm:
	for _, form := range forms {
		parts := strings.Fields(form)
		if len(parts) != len(l.words) {
			continue
		}
		var found said
		for k, part := range parts {
			if !found.take(part, l.words[k]) {
				continue nextForm
			}
		}
		l.said = found
		return true
	}
	return false
}

// take keeps what a word says at that part of a form, if it may stand there.
func (s *said) take(part, word string) bool {
	switch part {
	case "PATH":
		s.paths = append(s.paths, word)
		return true
	case "N":
		return s.takeNumber(word, maxNumber)
	case "TIMES":
		// One more than may be written, so that a script can ask for what is refused.
		return s.takeNumber(word, api.MaxData+1)
	case "HEX":
		return s.takeData(word)
	}
	return word == part
}

func (s *said) takeNumber(word string, most int) bool {
	n, ok := numberOf(word, most)
	s.numbers = append(s.numbers, n)
	return ok
}

func (s *said) takeData(word string) bool {
	var ok bool
	s.data, ok = bytesOf(word)
	return ok
}
