package tests

import (
	"bytes"
	"go/ast"
	"go/format"
	"go/parser"
	"go/token"
	"os"
	"path/filepath"
	"slices"
	"strconv"
	"strings"
	"testing"
)

// The rules of the language page that a text shows; the rest is for readers.

const mostLines = 60

func allowedImports() []string {
	return []string{"bytes", "cmp", "container/heap", "errors", "iter", "maps", "math", "math/bits", "slices", "sort", "strconv", "strings", "sync", "sync/atomic", "unicode", "unicode/utf8"}
}

func TestProgramKeepsToTheLanguage(t *testing.T) {
	entries, err := os.ReadDir("../impl")
	if err != nil {
		t.Fatal(err)
	}
	for _, e := range entries {
		if e.IsDir() || filepath.Ext(e.Name()) != ".go" || strings.HasSuffix(e.Name(), "_test.go") {
			t.Errorf("%s: not a Go file of the program", e.Name())
			continue
		}
		lookAtFile(t, filepath.Join("../impl", e.Name()))
	}
}

func lookAtFile(t *testing.T, path string) {
	source, err := os.ReadFile(path)
	if err != nil {
		t.Fatal(err)
	}
	if laid, err := format.Source(source); err != nil || !bytes.Equal(laid, source) {
		t.Errorf("%s: not in gofmt's layout (%v)", path, err)
	}
	if bytes.Contains(source, []byte("\n//go:")) || bytes.Contains(source, []byte("\n// +build")) {
		t.Errorf("%s: has a line for the compiler", path)
	}
	set := token.NewFileSet()
	file, err := parser.ParseFile(set, path, source, parser.SkipObjectResolution)
	if err != nil {
		t.Fatal(err)
	}
	for _, i := range file.Imports {
		if name, _ := strconv.Unquote(i.Path.Value); !slices.Contains(allowedImports(), name) {
			t.Errorf("%s: imports %s", path, name)
		}
	}
	for _, d := range file.Decls {
		switch x := d.(type) {
		case *ast.FuncDecl:
			lines := set.Position(x.End()).Line - set.Position(x.Pos()).Line + 1
			if lines > mostLines {
				t.Errorf("%s: %s has %d lines", path, x.Name.Name, lines)
			}
		case *ast.GenDecl:
			lookAtVariables(t, path, x)
		}
	}
}

func lookAtVariables(t *testing.T, path string, d *ast.GenDecl) {
	if d.Tok != token.VAR {
		return
	}
	for _, s := range d.Specs {
		v := s.(*ast.ValueSpec)
		if len(v.Values) != len(v.Names) {
			t.Errorf("%s: %s has no value of its own", path, v.Names[0].Name)
		}
		ast.Inspect(v, func(n ast.Node) bool {
			switch n.(type) {
			case *ast.MapType, *ast.FuncLit, *ast.FuncType, *ast.ChanType, *ast.StarExpr:
				t.Errorf("%s: %s is no short table", path, v.Names[0].Name)
			}
			return true
		})
	}
}
