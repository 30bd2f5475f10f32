// Package rules holds the whole project against what the document and the language's rules ask of every package.
package rules

import (
	"go/ast"
	"go/format"
	"go/parser"
	"go/token"
	"io/fs"
	"os"
	"path/filepath"
	"slices"
	"strconv"
	"strings"
	"testing"

	"cenotaph/api"
)

// library is what the program may import of Go's own packages.
var library = strings.Fields("bytes cmp container/heap errors iter maps math math/bits slices sort strconv strings sync sync/atomic unicode unicode/utf8")

// layers is the document's map: which layers each one calls.
var layers = map[string]string{
	"api":    "",
	"id":     "api",
	"span":   "api",
	"vec":    "api id",
	"know":   "id span vec",
	"zone":   "api",
	"wire":   "api",
	"item":   "api id wire zone",
	"store":  "item know",
	"cert":   "api id vec",
	"matrix": "id vec",
	"node":   "api id span vec know zone item store cert matrix",
	"frame":  "api id span vec know zone wire item cert matrix",
	"swap":   "api id vec know zone item store matrix node frame",
	"gc":     "id vec know zone item store cert matrix node",
	"bag":    "api frame",
	"mesh":   "api id zone node frame swap gc bag",
	"script": "api id zone mesh",
	"audit":  "api id vec know zone item store cert matrix node mesh",
	"shell":  "api id vec know item node swap gc bag mesh script audit",
}

// sources is the program's files by their paths from the project's root; tests may use all of Go.
func sources(t *testing.T) map[string][]byte {
	t.Helper()
	all := map[string][]byte{}
	err := filepath.WalkDir("..", func(path string, d fs.DirEntry, err error) error {
		if err == nil && d.IsDir() && laidBeside(d.Name()) {
			return fs.SkipDir
		}
		if err != nil || d.IsDir() || !strings.HasSuffix(path, ".go") || strings.HasSuffix(path, "_test.go") {
			return err
		}
		text, err := os.ReadFile(path)
		name, _ := filepath.Rel("..", path)
		all[filepath.ToSlash(name)] = text
		return err
	})
	if err != nil {
		t.Fatal(err)
	}
	return all
}

// laidBeside: is it a folder that isn't the program's own?
func laidBeside(name string) bool {
	return name == "sharedtests" || name == "form" || name == "try" || strings.HasPrefix(name, "cenotaph") || len(name) > 2 && name[0] == '.'
}

func parse(t *testing.T, name string, text []byte) (*token.FileSet, *ast.File) {
	t.Helper()
	set := token.NewFileSet()
	file, err := parser.ParseFile(set, name, text, parser.ParseComments)
	if err != nil {
		t.Fatal(err)
	}
	return set, file
}

func TestEachLayerHasItsPackage(t *testing.T) {
	all := sources(t)
	for name := range layers {
		if _, ok := all[name+"/"+name+".go"]; !ok {
			t.Errorf("there is no package %s", name)
		}
	}
}

func TestImports(t *testing.T) {
	for name, text := range sources(t) {
		_, file := parse(t, name, text)
		calls, isLayer := layers[strings.Split(name, "/")[0]]
		for _, spec := range file.Imports {
			path, err := strconv.Unquote(spec.Path.Value)
			if err != nil {
				t.Fatal(err)
			}
			own, isOwn := strings.CutPrefix(path, "cenotaph/")
			_, toLayer := layers[own]
			switch {
			case !isOwn && !slices.Contains(library, path):
				t.Errorf("%s imports %s", name, path)
			case own == "sample":
				t.Errorf("%s calls what is for tests alone", name)
			case isLayer && toLayer && !slices.Contains(strings.Fields(calls), own):
				t.Errorf("%s calls %s, which its layer doesn't", name, own)
			}
		}
	}
}

func TestLayout(t *testing.T) {
	for name, text := range sources(t) {
		nice, err := format.Source(text)
		if err != nil || string(nice) != string(text) {
			t.Errorf("%s isn't in gofmt's layout: %v", name, err)
		}
		set, file := parse(t, name, text)
		for _, group := range file.Comments {
			for _, c := range group.List {
				if strings.HasPrefix(c.Text, "//go:") || strings.HasPrefix(c.Text, "// +build") {
					t.Errorf("%s has the line %s", name, c.Text)
				}
			}
		}
		for _, d := range file.Decls {
			f, ok := d.(*ast.FuncDecl)
			if ok && set.Position(f.End()).Line-set.Position(f.Pos()).Line >= 60 {
				t.Errorf("%s: %s is too long", name, f.Name.Name)
			}
		}
	}
}

func TestLimits(t *testing.T) {
	got := []int{api.MaxDepth, api.MaxKids, api.MaxNodes, api.MaxKeys, api.MaxText, api.MaxSpot, api.MaxZone, api.MaxSeq,
		api.MaxExtra, api.MaxBatch, api.MaxBag, api.MaxBytes}
	want := []int{6, 9, 12, 32, 16, 1000, 32, 1048576, 4096, 32, 64, 1048576}
	if !slices.Equal(got, want) {
		t.Error(got)
	}
}

func TestErrors(t *testing.T) {
	all := []api.Errno{api.OK, api.ErrArg, api.ErrShort, api.ErrForm, api.ErrId, api.ErrState, api.ErrKey, api.ErrText, api.ErrSpot,
		api.ErrZone, api.ErrSeq, api.ErrNone, api.ErrHidden, api.ErrPending, api.ErrRoot, api.ErrHeld, api.ErrStale, api.ErrOld,
		api.ErrFull, api.ErrKnown, api.ErrWord}
	for i, e := range all {
		if int(e) != i {
			t.Errorf("%d is %d", i, e)
		}
	}
}
