// Package rules has tests alone: they hold the files of all packages against what the language of the program lets them import.
package rules

import (
	"fmt"
	"go/ast"
	"go/parser"
	"go/token"
	"os"
	"path/filepath"
	"slices"
	"strconv"
	"strings"
	"testing"
)

// module is the project's own, whose packages may be imported.
const module = "flit/"

// library are the packages of the library that may be imported; of some a few names alone may be used, or all but a few.
func library() []string {
	return []string{
		"bytes", "cmp", "container/heap", "errors", "iter", "maps", "math", "math/bits", "slices", "sort",
		"strconv", "strings", "sync", "sync/atomic", "unicode", "unicode/utf8",
	}
}

func mayUse(path, name string) bool {
	switch path {
	case "sync":
		return slices.Contains([]string{"Mutex", "RWMutex", "WaitGroup", "Once"}, name)
	case "iter":
		return name != "Pull" && name != "Pull2"
	}
	return true
}

// faults are what a file of a package, of that text, may not have.
func faults(text string) ([]string, error) {
	f, err := parser.ParseFile(token.NewFileSet(), "", text, parser.ParseComments)
	if err != nil {
		return nil, err
	}
	var l []string
	paths := map[string]string{}
	for _, s := range f.Imports {
		path, err := strconv.Unquote(s.Path.Value)
		if err != nil {
			return nil, err
		}
		name := path[strings.LastIndexByte(path, '/')+1:]
		if s.Name != nil {
			name = s.Name.Name
		}
		paths[name] = path
		if name == "." || !strings.HasPrefix(path, module) && !slices.Contains(library(), path) {
			l = append(l, "imports "+path)
		}
	}
	ast.Inspect(f, func(n ast.Node) bool {
		if x, ok := n.(*ast.SelectorExpr); ok {
			if of, ok := x.X.(*ast.Ident); ok && !mayUse(paths[of.Name], x.Sel.Name) {
				l = append(l, fmt.Sprintf("uses %s.%s", of.Name, x.Sel.Name))
			}
		}
		return true
	})
	for _, g := range f.Comments {
		for _, c := range g.List {
			if strings.HasPrefix(c.Text, "//go:") || strings.HasPrefix(c.Text, "// +build") {
				l = append(l, "has the line "+c.Text)
			}
		}
	}
	return l, nil
}

// LANGUAGE.md, rules 1 and 2: no file of any package but the tests imports what it may not, those of packages that only tests use neither.
func TestFiles(t *testing.T) {
	files, err := filepath.Glob("../*/*.go")
	if err != nil {
		t.Fatal(err)
	}
	looked := 0
	for _, name := range files {
		if strings.HasSuffix(name, "_test.go") {
			continue
		}
		text, err := os.ReadFile(name)
		if err != nil {
			t.Fatal(err)
		}
		l, err := faults(string(text))
		if err != nil {
			t.Errorf("%s: %v", name, err)
		}
		for _, wrong := range l {
			t.Errorf("%s %s", name, wrong)
		}
		looked++
	}
	if looked < 28 { // api, the 26 layers, and what tests share
		t.Errorf("%d files were looked at", looked)
	}
}

// What may not be is found, and nothing else.
func TestFaults(t *testing.T) {
	for text, want := range map[string][]string{
		"import \"flit/api\"":                          nil,
		"import (\n\"strings\"\n\"math/bits\"\n)":      nil,
		"import \"fmt\"":                               {"imports fmt"},
		"import f \"fmt\"":                             {"imports fmt"},
		"import _ \"unsafe\"":                          {"imports unsafe"},
		"import . \"strings\"":                         {"imports strings"},
		"import (\n\"context\"\n\"math/rand\"\n)":      {"imports context", "imports math/rand"},
		"import \"flit.example/api\"":                  {"imports flit.example/api"},
		"import \"sync\"\nvar x sync.Mutex":            nil,
		"import \"sync\"\nvar x sync.Pool":             {"uses sync.Pool"},
		"import s \"sync\"\nvar x s.Map":               {"uses s.Map"},
		"import \"iter\"\nvar x iter.Seq[int]":         nil,
		"import \"iter\"\nvar x, y = iter.Pull(z)":     {"uses iter.Pull"},
		"import \"sync/atomic\"\nvar x atomic.Pointer": nil,
		"//go:noinline\nfunc f() {}":                   {"has the line //go:noinline"},
		"// go: as text\nfunc f() {}":                  nil,
	} {
		got, err := faults("package p\n" + text)
		if err != nil || !slices.Equal(got, want) {
			t.Errorf("%q: %q, %v, want %q", text, got, err, want)
		}
	}
	if _, err := faults("package"); err == nil {
		t.Error("a text that is no file of Go has no error")
	}
}
