package rules

import (
	"bytes"
	"go/ast"
	"go/format"
	"go/parser"
	"go/token"
	"os"
	"path/filepath"
	"slices"
	"strconv"
	"strings"
	"testing"
)

var library = strings.Fields("bytes cmp container/heap errors iter maps math math/bits slices sort strconv strings sync sync/atomic unicode unicode/utf8")

var syncNames = strings.Fields("Mutex RWMutex WaitGroup Once")

const longest = 65 // lines of a function: at most some 60

// folders: the packages of the program, those beside sharedtests, which isn't part of it.
func folders(t *testing.T) []string {
	all, err := os.ReadDir("..")
	if err != nil {
		t.Fatal(err)
	}
	var names []string
	for _, f := range all {
		if f.IsDir() && !strings.HasPrefix(f.Name(), ".") && f.Name() != "sharedtests" {
			names = append(names, f.Name())
		}
	}
	return names
}

func TestFolders(t *testing.T) {
	names := folders(t)
	for _, want := range strings.Fields("api ram flt pte walk tlb bootmap buddy quota table region pcid space cpu share call sched trap kernel flat audit script") {
		if !slices.Contains(names, want) {
			t.Errorf("no package %s", want)
		}
	}
	for _, name := range names {
		if name == "form" || name == "try" || strings.HasPrefix(name, "demesne") {
			t.Errorf("a folder may not be named %s", name)
		}
	}
}

func TestText(t *testing.T) {
	for _, name := range folders(t) {
		files, err := os.ReadDir(filepath.Join("..", name))
		if err != nil {
			t.Fatal(err)
		}
		for _, f := range files {
			path := filepath.Join("..", name, f.Name())
			if f.IsDir() || !strings.HasSuffix(path, ".go") {
				t.Errorf("%s isn't a Go file", path)
			} else {
				checkFile(t, path)
			}
		}
	}
}

func checkFile(t *testing.T, path string) {
	text, err := os.ReadFile(path)
	if err != nil {
		t.Fatal(err)
	}
	if neat, err := format.Source(text); err != nil || !bytes.Equal(neat, text) {
		t.Errorf("%s: not in gofmt's layout: %v", path, err)
	}
	if strings.HasSuffix(path, "_test.go") {
		return // tests may use all of Go
	}
	places := token.NewFileSet()
	file, err := parser.ParseFile(places, path, text, parser.ParseComments)
	if err != nil {
		t.Fatal(err)
	}
	for _, problem := range slices.Concat(imports(file), remarks(file), functions(places, file), variables(file), selectors(file)) {
		t.Errorf("%s: %s", path, problem)
	}
}

func imports(file *ast.File) (problems []string) {
	for _, i := range file.Imports {
		path, _ := strconv.Unquote(i.Path.Value)
		if !slices.Contains(library, path) && !strings.HasPrefix(path, "demesne/") || i.Name != nil {
			problems = append(problems, "import of "+path)
		}
	}
	return problems
}

func remarks(file *ast.File) (problems []string) {
	for _, group := range file.Comments {
		for _, c := range group.List {
			if strings.HasPrefix(c.Text, "//go:") || strings.HasPrefix(c.Text, "// +build") {
				problems = append(problems, c.Text)
			}
		}
	}
	return problems
}

func functions(places *token.FileSet, file *ast.File) (problems []string) {
	for _, d := range file.Decls {
		f, ok := d.(*ast.FuncDecl)
		if !ok {
			continue
		}
		if n := places.Position(f.End()).Line - places.Position(f.Pos()).Line + 1; n > longest {
			problems = append(problems, f.Name.Name+" has "+strconv.Itoa(n)+" lines")
		}
		if f.Body == nil {
			problems = append(problems, f.Name.Name+" has no body")
		}
		if f.Recv == nil && f.Name.Name == "init" {
			problems = append(problems, "func init")
		}
	}
	return problems
}

// variables: those at package level are errors of one text, or short tables that are written out.
func variables(file *ast.File) (problems []string) {
	for _, d := range file.Decls {
		g, ok := d.(*ast.GenDecl)
		if !ok || g.Tok != token.VAR {
			continue
		}
		for _, s := range g.Specs {
			v := s.(*ast.ValueSpec)
			if len(v.Values) != len(v.Names) {
				problems = append(problems, v.Names[0].Name+" has no value of its own")
			}
			for _, x := range v.Values {
				if !writtenOut(x) {
					problems = append(problems, "the value of "+v.Names[0].Name+" isn't written out")
				}
			}
		}
	}
	return problems
}

func writtenOut(x ast.Expr) bool {
	if c, ok := x.(*ast.CallExpr); ok {
		s, ok := c.Fun.(*ast.SelectorExpr)
		return ok && selected(s) == "errors.New"
	}
	good := true
	ast.Inspect(x, func(n ast.Node) bool {
		switch y := n.(type) {
		case *ast.CallExpr, *ast.MapType, *ast.FuncType, *ast.FuncLit:
			good = false
		case *ast.UnaryExpr:
			good = good && y.Op != token.AND
		case *ast.BasicLit:
			good = good && y.Kind != token.FLOAT && y.Kind != token.IMAG
		}
		return good
	})
	return good
}

func selected(s *ast.SelectorExpr) string {
	if x, ok := s.X.(*ast.Ident); ok {
		return x.Name + "." + s.Sel.Name
	}
	return ""
}

func selectors(file *ast.File) (problems []string) {
	ast.Inspect(file, func(n ast.Node) bool {
		s, ok := n.(*ast.SelectorExpr)
		if !ok {
			return true
		}
		name := selected(s)
		if name == "iter.Pull" || name == "iter.Pull2" || strings.HasPrefix(name, "sync.") && !slices.Contains(syncNames, s.Sel.Name) {
			problems = append(problems, name)
		}
		return true
	})
	return problems
}
