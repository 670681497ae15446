// Package checks has tests alone: of the numbers that all layers share, and of what every package's text must keep to.
package checks

import (
	"bytes"
	"go/ast"
	"go/format"
	"go/parser"
	"go/token"
	"os"
	"path/filepath"
	"slices"
	"strconv"
	"strings"
	"testing"
)

const root = ".."

// layers are the packages in the order in which they stand over one another.
func layers() []string {
	return strings.Fields("api sector disk graph cache bits layout path space blocks file dir look fsck tree fs plain dump share front world")
}

// allowed are the library's packages that the program may import.
func allowed() []string {
	return strings.Fields("bytes cmp container/heap errors iter maps math math/big math/bits slices sort strconv strings sync sync/atomic unicode unicode/utf8")
}

// source is one of the program's files.
type source struct {
	pack string
	path string
	text []byte
	fset *token.FileSet
	tree *ast.File
}

// sources are all of the program's files but its tests.
func sources(t *testing.T) []source {
	t.Helper()
	paths, err := filepath.Glob(filepath.Join(root, "*", "*.go"))
	if err != nil {
		t.Fatal(err)
	}
	var list []source
	for _, p := range paths {
		if strings.HasSuffix(p, "_test.go") {
			continue
		}
		text, err := os.ReadFile(p)
		if err != nil {
			t.Fatal(err)
		}
		fset := token.NewFileSet()
		tree, err := parser.ParseFile(fset, p, text, parser.ParseComments)
		if err != nil {
			t.Fatal(err)
		}
		list = append(list, source{filepath.Base(filepath.Dir(p)), p, text, fset, tree})
	}
	return list
}

func TestEveryLayerIsThere(t *testing.T) {
	there := map[string]int{}
	for _, s := range sources(t) {
		there[s.tree.Name.Name]++
		if s.tree.Name.Name != s.pack {
			t.Errorf("%s: package %s", s.path, s.tree.Name.Name)
		}
	}
	for _, l := range layers() {
		if there[l] == 0 {
			t.Errorf("no package %s", l)
		}
	}
}

func TestImports(t *testing.T) {
	for _, s := range sources(t) {
		own := slices.Index(layers(), s.pack)
		for _, i := range s.tree.Imports {
			p, err := strconv.Unquote(i.Path.Value)
			if err != nil {
				t.Fatal(err)
			}
			inner, ours := strings.CutPrefix(p, "breakwater/")
			if !ours && !slices.Contains(allowed(), p) {
				t.Errorf("%s imports %s", s.path, p)
			}
			if ours && own >= 0 && slices.Index(layers(), inner) >= own {
				t.Errorf("%s imports %s, which is not below it", s.path, p)
			}
		}
	}
}

func TestText(t *testing.T) {
	for _, s := range sources(t) {
		if want, err := format.Source(s.text); err != nil || !bytes.Equal(want, s.text) {
			t.Errorf("%s: not gofmt's layout (%v)", s.path, err)
		}
		for _, group := range s.tree.Comments {
			for _, c := range group.List {
				if strings.HasPrefix(c.Text, "//go:") || strings.HasPrefix(c.Text, "// +build") {
					t.Errorf("%s: %s", s.path, c.Text)
				}
			}
		}
		for _, d := range s.tree.Decls {
			f, ok := d.(*ast.FuncDecl)
			if !ok {
				continue
			}
			if n := s.fset.Position(f.End()).Line - s.fset.Position(f.Pos()).Line + 1; n > 60 {
				t.Errorf("%s: %s has %d lines", s.path, f.Name.Name, n)
			}
		}
	}
}

func TestNoOtherFiles(t *testing.T) {
	for _, l := range layers() {
		entries, err := os.ReadDir(filepath.Join(root, l))
		if err != nil {
			t.Fatal(err)
		}
		for _, e := range entries {
			if !strings.HasSuffix(e.Name(), ".go") {
				t.Errorf("%s has %s, which is no Go file", l, e.Name())
			}
		}
	}
}
