package parse

import (
	"math/rand"
	"slices"
	"strconv"
	"strings"
	"testing"

	"bloomery/api"
	"bloomery/lex"
)

// The model is the grammar as the chapter writes it, with rules instead of stars. A chart tells of each row of tokens whether a file begins with it, without a decision which rule applies.
const grammar = `
file: stmts
stmts:
stmts: stmt stmts
stmt: NAME = expr ;
stmt: call ;
stmt: for NAME in expr block
stmt: if expr block
stmt: if expr block else block
stmt: rule NAME ( ) block
stmt: rule NAME ( params ) block
block: { stmts }
params: param
params: param , params
param: NAME : TYPE
param: NAME : TYPE = expr
expr: sum
expr: sum == sum
expr: sum != sum
expr: sum in sum
sum: prim
sum: prim + sum
prim: TEXT
prim: NUMBER
prim: NAME
prim: call
prim: [ ]
prim: [ exprs ]
prim: { }
prim: { entries }
prim: ( expr )
prim: not prim
exprs: expr
exprs: expr , exprs
entries: entry
entries: entry , entries
entry: TEXT : expr
call: NAME ( )
call: NAME ( args )
args: arg
args: arg , args
arg: expr
arg: NAME = expr`

// made is a rule of the grammar: what is made of what.
type made struct {
	left  string
	right []string
}

// item is a rule of which the parts ahead of the dot have been read since some token.
type item struct{ rule, dot, from int }

// chart is, behind each token, all items that are possible there.
type chart [][]item

var rulesOfAll = func() []made {
	var out []made
	for _, line := range strings.Split(grammar[1:], "\n") {
		left, right, _ := strings.Cut(line, ":")
		out = append(out, made{left, strings.Fields(right)})
	}
	return out
}()

// part is the next part of an item, or empty if it is whole.
func (i item) part() string {
	if r := rulesOfAll[i.rule].right; i.dot < len(r) {
		return r[i.dot]
	}
	return ""
}

// grown is a chart with one more set, of items and of all that they lead to.
func (c chart) grown(set []item) chart {
	seen := map[item]bool{}
	for _, i := range set {
		seen[i] = true
	}
	add := func(i item) {
		if !seen[i] {
			seen[i] = true
			set = append(set, i)
		}
	}
	for k := 0; k < len(set); k++ {
		i := set[k]
		part := i.part()
		if part == "" {
			from := set
			if i.from < len(c) {
				from = c[i.from]
			}
			for _, p := range from {
				if p.part() == rulesOfAll[i.rule].left {
					add(item{p.rule, p.dot + 1, p.from})
				}
			}
			continue
		}
		for j, r := range rulesOfAll {
			if r.left == part {
				add(item{j, 0, len(c)})
			}
		}
		if part == "stmts" { // which may be nothing
			add(item{i.rule, i.dot + 1, i.from})
		}
	}
	return append(slices.Clip(c), set)
}

// read is the chart behind one more token, or nil if no file begins so.
func (c chart) read(token string) chart {
	var set []item
	for _, i := range c[len(c)-1] {
		if is(token, i.part()) {
			set = append(set, item{i.rule, i.dot + 1, i.from})
		}
	}
	if set == nil {
		return nil
	}
	return c.grown(set)
}

// whole tells whether what has been read is a file.
func (c chart) whole() bool {
	return slices.Contains(c[len(c)-1], item{0, 1, 0})
}

// empty is the chart ahead of all tokens.
func empty() chart {
	return chart(nil).grown([]item{{0, 0, 0}})
}

// is tells whether a token is a terminal of the grammar.
func is(token, part string) bool {
	word := token[0] == '_' || token[0] >= 'a' && token[0] <= 'z' || token[0] >= 'A' && token[0] <= 'Z'
	switch part {
	case "NAME":
		return word && !strings.Contains(" for in if else rule not ", " "+token+" ")
	case "TYPE":
		return word && strings.Contains(" text bool int texts files labels ", " "+token+" ")
	case "NUMBER":
		return token[0] >= '0' && token[0] <= '9'
	case "TEXT":
		return token[0] == '"'
	}
	return token == part
}

// firstWrong is the first token with which no file begins; it is that behind the last one if only more could make a file, and -1 of a file.
func firstWrong(tokens []string) int {
	c := empty()
	for i, t := range tokens {
		if c = c.read(t); c == nil {
			return i
		}
	}
	if c.whole() {
		return -1
	}
	return len(tokens)
}

// tooDeep is the first token whose depth is above 60, or -1. The tokens are those that a file begins with.
func tooDeep(tokens []string) int {
	var open []string // what is not closed; a rule's parenthesis has no depth
	deep := func() int { return len(open) - strings.Count(strings.Join(open, " "), "rule") }
	for i, t := range tokens {
		switch t {
		case "{", "[", "not":
			open = append(open, t)
		case "(":
			if i >= 2 && tokens[i-2] == "rule" {
				t = "rule"
			}
			open = append(open, t)
		case "}", "]", ")":
			open = open[:len(open)-1]
		}
		if deep() > 60 {
			return i
		}
		// What ends a prim closes each not ahead of it.
		name := is(t, "NAME") && !(i+1 < len(tokens) && tokens[i+1] == "(")
		for ends := name || is(t, "NUMBER") || is(t, "TEXT") || strings.Contains("}])", t); ends && len(open) > 0 && open[len(open)-1] == "not"; {
			open = open[:len(open)-1]
		}
	}
	return -1
}

// verdict is the error of tokens, and the token that it is at.
func verdict(tokens []string) (api.Errno, int) {
	at := firstWrong(tokens)
	ahead := tokens
	if at >= 0 {
		ahead = tokens[:at]
	}
	if deep := tooDeep(ahead); deep >= 0 {
		return api.ErrLimit, deep
	}
	if at >= 0 {
		return api.ErrForm, at
	}
	return api.OK, 0
}

// laid is tokens with gaps ahead of them and one behind the last, and the places of all and of the end.
func laid(tokens []string, gap func(i int) string) (string, []api.Place) {
	var places []api.Place
	var text strings.Builder
	place := api.Place{Line: 1, Column: 1}
	for i := 0; ; i++ {
		g := gap(i)
		text.WriteString(g)
		if n := strings.Count(g, "\n"); n > 0 {
			place = api.Place{Line: place.Line + n, Column: len(g) - strings.LastIndex(g, "\n")}
		} else {
			place.Column += len(g)
		}
		places = append(places, place)
		if i == len(tokens) {
			return text.String(), places
		}
		text.WriteString(tokens[i])
		place.Column += len(tokens[i])
	}
}

// spaced are tokens with a space ahead of each.
func spaced(tokens []string) (string, []api.Place) {
	return laid(tokens, func(i int) string { return " " })
}

// someGaps makes gaps, none of them empty.
func someGaps(r *rand.Rand) func(int) string {
	return func(int) string {
		out := ""
		for range 1 + r.Intn(2) {
			out += pick(r, " ", "\t", "\n", "\r\n", "  ", "# so\n", "#\"(?\n", "\n\n")
		}
		return out
	}
}

// pick is one of the items.
func pick(r *rand.Rand, items ...string) string {
	return items[r.Intn(len(items))]
}

// checkVerdict compares Read of tokens with the model: whether they are a file, else the error and its place. It returns the file.
func checkVerdict(t *testing.T, tokens []string, text string, places []api.Place) (api.Node, bool) {
	t.Helper()
	why, at := verdict(tokens)
	want := api.Place{}
	if why != api.OK {
		want = places[at]
	}
	n, got, place := Read(text)
	if got != why || place != want {
		t.Fatalf("%q: %v at %v, not %v at %v", text, got, place, why, want)
	}
	if why != api.OK && (n.Kind != 0 || n.Text != "" || n.Kids != nil || n.Place != api.Place{}) {
		t.Fatalf("%q: a node beside an error: %v", text, n)
	}
	return n, why == api.OK
}

// grower makes a file's tokens and its node, each of whose places is the number of its first token, as a line.
type grower struct {
	r      *rand.Rand
	tokens []string
}

// put adds a token.
func (g *grower) put(s string) int {
	g.tokens = append(g.tokens, s)
	return len(g.tokens) - 1
}

// chance is true once in n times.
func (g *grower) chance(n int) bool { return g.r.Intn(n) == 0 }

func numbered(kind int, text string, at int, kids ...api.Node) api.Node {
	return api.Node{Kind: kind, Text: text, Place: api.Place{Line: at}, Kids: kids}
}

// name adds a NAME, sometimes a word of the types or one like a reserved word.
func (g *grower) name() (string, int) {
	s := pick(g.r, "a", "b", "x1", "_", "text", "bool", "files", "int", "labels", "texts", "iff", "In", "rules", "no", "f", "glob")
	return s, g.put(s)
}

func (g *grower) file(size int) api.Node {
	n := numbered(File, "", -1)
	for range size {
		n.Kids = append(n.Kids, g.stmt(1+g.r.Intn(4)))
	}
	return n
}

func (g *grower) stmt(deep int) api.Node {
	kind := g.r.Intn(5)
	if deep == 0 {
		kind = g.r.Intn(2)
	}
	at := len(g.tokens)
	switch kind {
	case 0:
		s, _ := g.name()
		g.put("=")
		e := g.expr(deep)
		g.put(";")
		return numbered(Assign, s, at, e)
	case 1:
		c := g.call(deep)
		g.put(";")
		return numbered(Do, "", at, c)
	case 2:
		g.put("for")
		s, _ := g.name()
		g.put("in")
		e := g.expr(deep)
		return numbered(For, s, at, e, g.block(deep-1))
	case 3:
		g.put("if")
		kids := []api.Node{g.expr(deep)}
		kids = append(kids, g.block(deep-1))
		if g.chance(2) {
			g.put("else")
			kids = append(kids, g.block(deep-1))
		}
		return numbered(If, "", at, kids...)
	}
	return g.rule(deep)
}

func (g *grower) rule(deep int) api.Node {
	at := g.put("rule")
	s, _ := g.name()
	g.put("(")
	var kids []api.Node
	for i := range g.r.Intn(4) {
		if i > 0 {
			g.put(",")
		}
		name, first := g.name()
		g.put(":")
		word := pick(g.r, "text", "bool", "int", "texts", "files", "labels")
		param := numbered(Param, name, first, numbered(Name, word, g.put(word)))
		if g.chance(2) {
			g.put("=")
			param.Kids = append(param.Kids, g.expr(deep))
		}
		kids = append(kids, param)
	}
	g.put(")")
	return numbered(Rule, s, at, append(kids, g.block(deep-1))...)
}

func (g *grower) block(deep int) api.Node {
	n := numbered(Block, "", g.put("{"))
	for range g.r.Intn(3) {
		n.Kids = append(n.Kids, g.stmt(max(deep, 0)))
	}
	g.put("}")
	return n
}

func (g *grower) expr(deep int) api.Node {
	left := g.sum(deep)
	if !g.chance(3) {
		return left
	}
	s := pick(g.r, "==", "!=", "in")
	at := g.put(s)
	return numbered(Op, s, at, left, g.sum(deep))
}

func (g *grower) sum(deep int) api.Node {
	left := g.prim(deep)
	for g.chance(3) {
		at := g.put("+")
		left = numbered(Op, "+", at, left, g.prim(deep))
	}
	return left
}

func (g *grower) prim(deep int) api.Node {
	kind := g.r.Intn(9)
	if deep <= 0 {
		kind = g.r.Intn(3)
	}
	at := len(g.tokens)
	switch kind {
	case 0:
		s, _ := g.name()
		return numbered(Name, s, at)
	case 1:
		s := pick(g.r, "0", "7", "12", "9223372036854775807")
		return numbered(Number, s, g.put(s))
	case 2:
		return g.text()
	case 3:
		return g.call(deep)
	case 4:
		g.put("[")
		kids := g.row(func() []api.Node { return []api.Node{g.expr(deep - 1)} })
		g.put("]")
		return numbered(List, "", at, kids...)
	case 5:
		g.put("{")
		kids := g.row(g.entry(deep - 1))
		g.put("}")
		return numbered(Dict, "", at, kids...)
	case 6:
		g.put("not")
		return numbered(Op, "not", at, g.prim(deep-1))
	}
	g.put("(")
	inner := g.expr(deep - 1)
	g.put(")")
	return inner
}

func (g *grower) text() api.Node {
	s := pick(g.r, "", "a", "=", "in", "not", "(", "\"", "\\", "\n", "é\xff", "# so", "text", ";")
	return numbered(Text, s, g.put(lex.Quote(s)))
}

func (g *grower) entry(deep int) func() []api.Node {
	return func() []api.Node {
		key := g.text()
		g.put(":")
		return []api.Node{key, g.expr(deep)}
	}
}

// row adds up to three, with commas between.
func (g *grower) row(one func() []api.Node) []api.Node {
	var out []api.Node
	for i := range g.r.Intn(4) {
		if i > 0 {
			g.put(",")
		}
		out = append(out, one()...)
	}
	return out
}

func (g *grower) call(deep int) api.Node {
	s, at := g.name()
	g.put("(")
	kids := g.row(func() []api.Node {
		arg := numbered(Arg, "", len(g.tokens))
		if g.chance(2) {
			arg.Text, _ = g.name()
			g.put("=")
		}
		arg.Kids = []api.Node{g.expr(deep - 1)}
		return []api.Node{arg}
	})
	g.put(")")
	return numbered(Call, s, at, kids...)
}

// settled is a node with the places of its tokens.
func settled(n api.Node, places []api.Place) api.Node {
	out := api.Node{Kind: n.Kind, Text: n.Text, Place: api.Place{Line: 1, Column: 1}}
	if n.Kind != File {
		out.Place = places[n.Place.Line]
	}
	for _, k := range n.Kids {
		out.Kids = append(out.Kids, settled(k, places))
	}
	return out
}

// someFile is a file's tokens and its node, as a grower makes them.
func someFile(r *rand.Rand, size int) ([]string, api.Node) {
	g := &grower{r: r}
	n := g.file(size)
	return g.tokens, n
}

// deepFile is a file's tokens with n things that have a depth inside each other.
func deepFile(r *rand.Rand, n int) []string {
	kinds := [][2]string{
		{"[", "]"}, {"[ 2 + 1 , [ ] ,", "]"}, {"(", ")"}, {"1 + ( 2 + ", ")"}, {"f (", ")"}, {"f ( b = not 1 , c =", ")"},
		{"not", ""}, {"not", ""}, {"{ \"k\" :", "}"}, {"{ \"k\" : ( a ) , \"l\" :", "}"},
	}
	ahead, behind := "x =", " ;"
	blocks := r.Intn(n + 1)
	for range n - blocks {
		kind := kinds[r.Intn(len(kinds))]
		ahead += " " + kind[0]
		behind = " " + kind[1] + behind
	}
	middle := pick(r, " 1", " a", " \"k\"", " a in b", " 1 + 2")
	for range blocks {
		ahead = pick(r, "if a {", "for x in l {", "rule r ( ) {", "rule r ( a : int = [ ] ) {", "if not a { } else {", "x = [ ] ; if [ a ] {", "if not f ( ) {") + " " + ahead
		behind += " }"
	}
	return strings.Fields(ahead + middle + behind)
}

// told is a node as a text: its kind and its text, its place if that is asked for, and its kids.
func told(n api.Node, places bool) string {
	out := strings.Fields("? File Assign Do For If Rule Param Block Name Number Text List Dict Call Arg Op")[n.Kind]
	if n.Text != "" {
		out += ":" + n.Text
	}
	if places {
		out += "@" + strconv.Itoa(n.Place.Line) + "," + strconv.Itoa(n.Place.Column)
	}
	if len(n.Kids) == 0 {
		return out
	}
	var l []string
	for _, k := range n.Kids {
		l = append(l, told(k, places))
	}
	return out + "(" + strings.Join(l, " ") + ")"
}
