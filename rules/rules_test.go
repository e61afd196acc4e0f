// Package rules holds the program's source against those rules of shared/LANGUAGE.md that its text shows plainly: imports, layout, lengths, what stands at package level.
package rules

import (
	"bytes"
	"go/ast"
	"go/format"
	"go/parser"
	"go/token"
	"os"
	"path/filepath"
	"slices"
	"strconv"
	"strings"
	"testing"
)

// layers: from the lowest on.
var layers = strings.Fields("real xdr lex syntax schema value notation codec engine stub cred message air shelf cache pace client service machine server portmap world")

var library = strings.Fields("bytes cmp container/heap errors iter maps math math/big math/bits slices sort strconv strings sync sync/atomic unicode unicode/utf8")

var syncNames = strings.Fields("Mutex RWMutex WaitGroup Once")

const mostLines = 60

type source struct {
	path string
	text []byte
	tree *ast.File
	fset *token.FileSet
}

// sources are the program's files of a package, its tests left out.
func sources(t *testing.T, pack string) []source {
	t.Helper()
	entries, err := os.ReadDir(filepath.Join("..", pack))
	if err != nil {
		t.Fatal(err)
	}
	var out []source
	for _, entry := range entries {
		name := entry.Name()
		if strings.HasSuffix(name, "_test.go") || name == "testdata" {
			continue
		}
		path := filepath.Join("..", pack, name)
		if !strings.HasSuffix(name, ".go") {
			t.Errorf("%s: no Go file", path)
			continue
		}
		text, err := os.ReadFile(path)
		if err != nil {
			t.Fatal(err)
		}
		fset := token.NewFileSet()
		tree, err := parser.ParseFile(fset, path, text, parser.ParseComments)
		if err != nil {
			t.Fatal(err)
		}
		out = append(out, source{path, text, tree, fset})
	}
	return out
}

func each(t *testing.T, check func(t *testing.T, pack string, s source)) {
	for _, pack := range append([]string{"api"}, layers...) {
		all := sources(t, pack)
		if len(all) == 0 {
			t.Errorf("%s: no source", pack)
		}
		for _, s := range all {
			check(t, pack, s)
		}
	}
}

// TestImports: a layer calls those below it, and few packages of the library.
func TestImports(t *testing.T) {
	each(t, func(t *testing.T, pack string, s source) {
		below := layers[:max(slices.Index(layers, pack), 0)]
		for _, i := range s.tree.Imports {
			path, err := strconv.Unquote(i.Path.Value)
			if err != nil {
				t.Fatal(err)
			}
			own, ours := strings.CutPrefix(path, "callbox/")
			lower := own == "api" && pack != "api" || slices.Contains(below, own)
			if ours && !lower || !ours && !slices.Contains(library, path) {
				t.Errorf("%s imports %s", s.path, path)
			}
		}
	})
}

func TestSyncNames(t *testing.T) {
	each(t, func(t *testing.T, pack string, s source) {
		ast.Inspect(s.tree, func(n ast.Node) bool {
			if x, ok := n.(*ast.SelectorExpr); ok {
				if from, ok := x.X.(*ast.Ident); ok && from.Name == "sync" && !slices.Contains(syncNames, x.Sel.Name) {
					t.Errorf("%s: sync.%s", s.path, x.Sel.Name)
				}
			}
			return true
		})
	})
}

func TestLayout(t *testing.T) {
	each(t, func(t *testing.T, pack string, s source) {
		laid, err := format.Source(s.text)
		if err != nil || !bytes.Equal(laid, s.text) {
			t.Errorf("%s: not gofmt's layout (%v)", s.path, err)
		}
	})
}

func TestRemarksThatSteerTheCompiler(t *testing.T) {
	each(t, func(t *testing.T, pack string, s source) {
		for _, group := range s.tree.Comments {
			for _, c := range group.List {
				if strings.HasPrefix(c.Text, "//go:") || strings.HasPrefix(c.Text, "// +build") {
					t.Errorf("%s: %s", s.path, c.Text)
				}
			}
		}
	})
}

func TestLengthOfFunctions(t *testing.T) {
	each(t, func(t *testing.T, pack string, s source) {
		for _, d := range s.tree.Decls {
			f, ok := d.(*ast.FuncDecl)
			if !ok {
				continue
			}
			if f.Name.Name == "init" && f.Recv == nil {
				t.Errorf("%s: func init", s.path)
			}
			if n := s.fset.Position(f.End()).Line - s.fset.Position(f.Pos()).Line + 1; n > mostLines {
				t.Errorf("%s: %s has %d lines", s.path, f.Name.Name, n)
			}
		}
	})
}

// TestPackageLevel: variables there are written out, and hold neither maps nor functions nor pointers nor what a call makes.
func TestPackageLevel(t *testing.T) {
	each(t, func(t *testing.T, pack string, s source) {
		for _, d := range s.tree.Decls {
			g, ok := d.(*ast.GenDecl)
			if !ok || g.Tok != token.VAR {
				continue
			}
			for _, spec := range g.Specs {
				v := spec.(*ast.ValueSpec)
				if len(v.Values) != len(v.Names) {
					t.Errorf("%s: %s has no value of its own", s.path, v.Names[0].Name)
				}
				for _, value := range v.Values {
					checkWrittenOut(t, s, v.Names[0].Name, value)
				}
			}
		}
	})
}

func checkWrittenOut(t *testing.T, s source, name string, value ast.Expr) {
	ast.Inspect(value, func(n ast.Node) bool {
		switch x := n.(type) {
		case *ast.MapType, *ast.FuncLit, *ast.FuncType, *ast.ChanType, *ast.StarExpr:
			t.Errorf("%s: %s holds %T", s.path, name, n)
		case *ast.UnaryExpr:
			if x.Op == token.AND {
				t.Errorf("%s: %s holds an address", s.path, name)
			}
		case *ast.BasicLit:
			if x.Kind == token.FLOAT || x.Kind == token.IMAG {
				t.Errorf("%s: %s holds %s", s.path, name, x.Value)
			}
		case *ast.CallExpr:
			if !isErrorsNew(x.Fun) {
				t.Errorf("%s: %s is made by a call", s.path, name)
			}
		}
		return true
	})
}

func isErrorsNew(made ast.Expr) bool {
	selector, ok := made.(*ast.SelectorExpr)
	if !ok {
		return false
	}
	from, ok := selector.X.(*ast.Ident)
	return ok && from.Name == "errors" && selector.Sel.Name == "New"
}
