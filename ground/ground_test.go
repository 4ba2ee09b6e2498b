// Package ground tests what all layers stand on: which there are, whom they may call, and which parts of the library.
package ground

import (
	"go/ast"
	"go/parser"
	"go/token"
	"os"
	"path/filepath"
	"slices"
	"strconv"
	"strings"
	"testing"
)

// The layers, lowest first: each may call those ahead of it alone.
const layers = "api pct url request cookie response xml crc disk frame wal kv ticket record tree expiry rank pattern services creds grant validate proxy logout render server script"

const library = "bytes cmp container/heap errors iter maps math math/bits slices sort strconv strings sync sync/atomic unicode unicode/utf8"

const longestFunction = 60

func files(t *testing.T, dir string) []string {
	t.Helper()
	all, err := filepath.Glob(filepath.Join("..", dir, "*.go"))
	if err != nil {
		t.Fatal(err)
	}
	return slices.DeleteFunc(all, func(f string) bool { return strings.HasSuffix(f, "_test.go") })
}

func folders(t *testing.T) []string {
	t.Helper()
	all, err := os.ReadDir("..")
	if err != nil {
		t.Fatal(err)
	}
	var l []string
	for _, d := range all {
		if d.IsDir() && !strings.HasPrefix(d.Name(), ".") && d.Name() != "sharedtests" {
			l = append(l, d.Name())
		}
	}
	return l
}

func mayImport(dir, path string) bool {
	low, own := strings.CutPrefix(path, "matricula/")
	if !own {
		return slices.Contains(strings.Fields(library), path)
	}
	order := strings.Fields(layers)
	if !slices.Contains(order, dir) {
		return true
	}
	return slices.Index(order, low) < slices.Index(order, dir)
}

func directives(f *ast.File) []string {
	var l []string
	for _, g := range f.Comments {
		for _, c := range g.List {
			if strings.HasPrefix(c.Text, "//go:") {
				l = append(l, c.Text)
			}
		}
	}
	return l
}

func TestLayersAreThere(t *testing.T) {
	for _, dir := range strings.Fields(layers) {
		if len(files(t, dir)) == 0 {
			t.Error("no package", dir)
		}
	}
}

func TestNamesOfFolders(t *testing.T) {
	for _, dir := range folders(t) {
		if dir == "form" || dir == "try" || strings.HasPrefix(dir, "matricula") {
			t.Error("a folder may not be named", dir)
		}
	}
}

func TestImportsAndLengths(t *testing.T) {
	for _, dir := range folders(t) {
		for _, name := range files(t, dir) {
			set := token.NewFileSet()
			f, err := parser.ParseFile(set, name, nil, parser.ParseComments)
			if err != nil {
				t.Fatal(err)
			}
			for _, i := range f.Imports {
				if path, _ := strconv.Unquote(i.Path.Value); !mayImport(dir, path) {
					t.Errorf("%s imports %s", name, path)
				}
			}
			for _, line := range directives(f) {
				t.Errorf("%s has a line %s", name, line)
			}
			for _, d := range f.Decls {
				x, ok := d.(*ast.FuncDecl)
				if ok && set.Position(x.End()).Line-set.Position(x.Pos()).Line >= longestFunction {
					t.Errorf("%s: %s is too long", name, x.Name.Name)
				}
			}
		}
	}
}
