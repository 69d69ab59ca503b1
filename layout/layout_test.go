package layout

import (
	"bytes"
	"go/ast"
	"go/format"
	"go/parser"
	"go/token"
	"os"
	"path/filepath"
	"slices"
	"strconv"
	"strings"
	"testing"
)

const module = "heliast"

// calls is the map of layers: which other ones each may call.
var calls = map[string]string{
	"api":     "",
	"glyph":   "",
	"value":   "api glyph",
	"canon":   "api glyph value",
	"digest":  "",
	"seal":    "digest",
	"names":   "api value",
	"redact":  "api value canon digest seal",
	"event":   "api glyph value canon seal names redact",
	"disk":    "api",
	"frame":   "",
	"log":     "api disk frame",
	"graph":   "",
	"state":   "api",
	"power":   "api value names",
	"rules":   "api value names power",
	"split":   "api graph state",
	"order":   "api value graph power",
	"resolve": "api value state rules split order",
	"store":   "api value graph state rules resolve",
	"park":    "api value",
	"room":    "api value canon seal names event disk log graph state rules store park",
	"play":    "api glyph value canon event disk room",
}

// library is what may be taken of the library.
const library = "bytes cmp container/heap errors iter maps math math/bits slices sort strconv strings sync sync/atomic unicode unicode/utf8"

const mostLines = 60

type source struct {
	pack, path string
	text       []byte
	fset       *token.FileSet
	file       *ast.File
}

// sources are the program's own Go files, tests aside.
func sources(t *testing.T) []source {
	paths, err := filepath.Glob("../*/*.go")
	if err != nil {
		t.Fatal(err)
	}
	var out []source
	for _, path := range paths {
		pack := filepath.Base(filepath.Dir(path))
		if pack == "sharedtests" || strings.HasSuffix(path, "_test.go") {
			continue
		}
		text, err := os.ReadFile(path)
		if err != nil {
			t.Fatal(err)
		}
		fset := token.NewFileSet()
		file, err := parser.ParseFile(fset, path, text, parser.ParseComments)
		if err != nil {
			t.Fatal(err)
		}
		out = append(out, source{pack, path, text, fset, file})
	}
	return out
}

func TestEachLayerIsThere(t *testing.T) {
	there := map[string]bool{}
	for _, s := range sources(t) {
		there[s.pack] = true
		if s.file.Name.Name != s.pack {
			t.Errorf("%s is of package %s", s.path, s.file.Name.Name)
		}
	}
	for pack := range calls {
		if !there[pack] {
			t.Errorf("there is no package %s", pack)
		}
	}
}

func TestImports(t *testing.T) {
	for _, s := range sources(t) {
		for _, x := range s.file.Imports {
			path, err := strconv.Unquote(x.Path.Value)
			if err != nil {
				t.Fatal(err)
			}
			own, ok := strings.CutPrefix(path, module+"/")
			if !ok {
				if !slices.Contains(strings.Fields(library), path) {
					t.Errorf("%s imports %s of the library", s.path, path)
				}
				continue
			}
			may, layer := calls[s.pack]
			if _, other := calls[own]; layer && other && !slices.Contains(strings.Fields(may), own) {
				t.Errorf("%s calls layer %s, which the map does not let it", s.path, own)
			}
		}
	}
}

func TestSourceText(t *testing.T) {
	for _, s := range sources(t) {
		laid, err := format.Source(s.text)
		if err != nil || !bytes.Equal(laid, s.text) {
			t.Errorf("%s is not laid out by gofmt (%v)", s.path, err)
		}
		for _, group := range s.file.Comments {
			for _, c := range group.List {
				if strings.HasPrefix(c.Text, "//go:") || strings.HasPrefix(c.Text, "// +build") {
					t.Errorf("%s has the line %s", s.path, c.Text)
				}
			}
		}
		for _, d := range s.file.Decls {
			f, ok := d.(*ast.FuncDecl)
			if ok && s.fset.Position(f.End()).Line-s.fset.Position(f.Pos()).Line >= mostLines {
				t.Errorf("%s: %s has more than %d lines", s.path, f.Name.Name, mostLines)
			}
		}
	}
}
