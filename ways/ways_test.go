package ways

import (
	"go/ast"
	"go/importer"
	"go/parser"
	"go/token"
	"go/types"
	"path/filepath"
	"strings"
	"testing"
)

// asked is what the document's section 'Ways' asks of each layer's package.
var asked = []struct{ layer, ways string }{
	{"be", "array range-integer"},
	{"poly", "array"},
	{"nand", "closure iota"},
	{"tag", "iota"},
	{"drive", "iota"},
	{"bbt", "copy"},
	{"twin", "map delete closure"},
	{"pool", "iota closure"},
	{"where", "map struct-compared delete"},
	{"scan", "map"},
	{"victim", "variadic closure"},
	{"move", "map range-map struct-compared"},
	{"level", "variadic"},
	{"disk", "variadic map"},
	{"rec", "variadic"},
	{"journal", "variadic range-function"},
	{"chart", "map range-string iota"},
	{"post", "closure"},
	{"books", "map delete"},
	{"sale", "generic-function method-value closure iota"},
	{"shift", "array range-array"},
	{"state", "constant-table array-compared iota"},
	{"req", "iota"},
	{"till", "method-value"},
	{"script", "method-expression function-field range-function"},
}

// TestWays looks into each layer's own files: what is asked of it must be there, in the package itself.
func TestWays(t *testing.T) {
	l := &look{fset: token.NewFileSet(), seen: map[string]*pack{}}
	l.std = importer.ForCompiler(l.fset, "source", nil)
	for _, a := range asked {
		p, err := l.load("tillroll/" + a.layer)
		if err != nil {
			t.Fatal(err)
		}
		for _, w := range strings.Fields(a.ways) {
			if !p.ways[w] {
				t.Errorf("layer %s has no %s", a.layer, w)
			}
		}
	}
}

// pack is a package that was looked into.
type pack struct {
	types *types.Package
	ways  map[string]bool
}

// look goes through packages, and keeps what it saw.
type look struct {
	fset *token.FileSet
	seen map[string]*pack
	std  types.Importer
}

// Import: packages of the project come from its files, all others from the library's.
func (l *look) Import(path string) (*types.Package, error) {
	if !strings.HasPrefix(path, "tillroll/") {
		return l.std.Import(path)
	}
	p, err := l.load(path)
	if err != nil {
		return nil, err
	}
	return p.types, nil
}

func (l *look) load(path string) (*pack, error) {
	if p := l.seen[path]; p != nil {
		return p, nil
	}
	names, _ := filepath.Glob(filepath.Join("..", strings.TrimPrefix(path, "tillroll/"), "*.go"))
	var files []*ast.File
	for _, n := range names {
		if strings.HasSuffix(n, "_test.go") {
			continue
		}
		f, err := parser.ParseFile(l.fset, n, nil, 0)
		if err != nil {
			return nil, err
		}
		files = append(files, f)
	}
	info := &types.Info{Types: map[ast.Expr]types.TypeAndValue{}, Uses: map[*ast.Ident]types.Object{}, Selections: map[*ast.SelectorExpr]*types.Selection{}, Instances: map[*ast.Ident]types.Instance{}}
	c := types.Config{Importer: l}
	tp, err := c.Check(path, l.fset, files, info)
	if err != nil {
		return nil, err
	}
	s := &sight{info: info, called: map[ast.Expr]bool{}, ways: map[string]bool{}}
	for _, f := range files {
		ast.Inspect(f, func(n ast.Node) bool { s.see(n); return true })
		s.tables(f)
	}
	p := &pack{tp, s.ways}
	l.seen[path] = p
	return p, nil
}

// sight is what one package's files show.
type sight struct {
	info   *types.Info
	called map[ast.Expr]bool
	ways   map[string]bool
}

func (s *sight) under(e ast.Expr) types.Type {
	if t := s.info.Types[e].Type; t != nil {
		return t.Underlying()
	}
	return nil
}

func (s *sight) see(n ast.Node) {
	switch x := n.(type) {
	case *ast.ArrayType:
		s.mark(x.Len != nil, "array")
	case *ast.MapType:
		s.ways["map"] = true
	case *ast.FuncLit:
		s.ways["closure"] = true
	case *ast.Ellipsis:
		s.mark(x.Elt != nil, "variadic")
	case *ast.FuncDecl:
		s.mark(x.Type.TypeParams != nil, "generic-function")
	case *ast.StructType:
		for _, f := range x.Fields.List {
			_, ok := s.under(f.Type).(*types.Signature)
			s.mark(ok, "function-field")
		}
	case *ast.RangeStmt:
		s.ranged(x)
	case *ast.BinaryExpr:
		if x.Op == token.EQL || x.Op == token.NEQ {
			s.compared(s.under(x.X))
		}
	case *ast.IndexExpr:
		if m, ok := s.under(x.X).(*types.Map); ok {
			s.compared(m.Key().Underlying())
		}
	case *ast.CallExpr:
		s.called[ast.Unparen(x.Fun)] = true
	case *ast.SelectorExpr:
		s.selected(x)
	case *ast.Ident:
		s.named(x)
	}
}

func (s *sight) mark(ok bool, way string) {
	if ok {
		s.ways[way] = true
	}
}

func (s *sight) ranged(x *ast.RangeStmt) {
	switch t := s.under(x.X).(type) {
	case *types.Map:
		s.ways["range-map"] = true
	case *types.Signature:
		s.ways["range-function"] = true
	case *types.Array:
		s.ways["range-array"] = true
	case *types.Basic:
		s.mark(t.Info()&types.IsString != 0, "range-string")
		s.mark(t.Info()&types.IsInteger != 0, "range-integer")
	}
}

func (s *sight) compared(t types.Type) {
	switch t.(type) {
	case *types.Array:
		s.ways["array-compared"] = true
	case *types.Struct:
		s.ways["struct-compared"] = true
	}
}

func (s *sight) selected(x *ast.SelectorExpr) {
	if sel := s.info.Selections[x]; sel != nil {
		s.mark(sel.Kind() == types.MethodExpr, "method-expression")
		s.mark(sel.Kind() == types.MethodVal && !s.called[x], "method-value")
	}
	if o := s.info.Uses[x.Sel]; o != nil && o.Pkg() != nil {
		s.mark(o.Pkg().Path() == "slices" && o.Name() == "Clone", "copy")
		s.mark(o.Pkg().Path() == "maps" && o.Name() == "Clone", "copy")
	}
}

func (s *sight) named(x *ast.Ident) {
	o := s.info.Uses[x]
	if o == nil || o.Pkg() != nil {
		return
	}
	switch o.Name() {
	case "iota", "delete", "copy", "clear":
		s.ways[o.Name()] = true
	}
}

// tables: a package-level variable whose value is written out.
func (s *sight) tables(f *ast.File) {
	for _, d := range f.Decls {
		g, ok := d.(*ast.GenDecl)
		if !ok || g.Tok != token.VAR {
			continue
		}
		for _, v := range g.Specs {
			for _, e := range v.(*ast.ValueSpec).Values {
				_, lit := e.(*ast.CompositeLit)
				s.mark(lit, "constant-table")
			}
		}
	}
}
