package parse

import (
	"math/big"
	"math/rand"
	"reflect"
	"regexp"
	"slices"
	"strings"
	"testing"

	"bloomery/api"
	"bloomery/lex"
)

// checkForm tells where a node that is a file is not printed as the chapter says.
func checkForm(t *testing.T, n api.Node) {
	t.Helper()
	text, why := Print(n)
	if why != api.OK {
		if deep(n) <= 60 || text != "" || why != api.ErrLimit {
			t.Fatalf("%s: %q, %v", told(n, false), text, why)
		}
		return
	}
	again, why, place := Read(text)
	if why != api.OK || !Same(n, again) {
		t.Fatalf("%q: read as %s, %v at %v, not %s", text, told(again, false), why, place, told(n, false))
	}
	if second, why := Print(again); why != api.OK || second != text || deep(n) > 60 {
		t.Fatalf("%q: printed again as %q, %v, a depth of %d", text, second, why, deep(n))
	}
	tokens := sources(text)
	if want := form(tokens); text != want {
		t.Fatalf("%q, not %q", text, want)
	}
	for i, s := range tokens {
		if s == "(" && !is(tokens[i-1], "NAME") {
			end := partner(tokens, i)
			fewer := slices.Concat(tokens[:i], tokens[i+1:end], tokens[end+1:])
			if other, why, _ := Read(strings.Join(fewer, " ")); why == api.OK && Same(other, n) {
				t.Fatalf("%q: the parenthesis that is token %d is not needed", text, i)
			}
		}
	}
}

// checkPrinted tells where a node that has been read is not printed, or not as the chapter says. Its form is no deeper than what was read.
func checkPrinted(t *testing.T, n api.Node) {
	t.Helper()
	if text, why := Print(n); why != api.OK {
		t.Fatalf("%s: %q, %v", told(n, false), text, why)
	}
	checkForm(t, n)
}

// sources are a text's tokens as they are written.
func sources(text string) []string {
	var out []string
	l, _, _ := lex.All(text)
	for _, token := range l {
		if token.Kind == lex.Text {
			token.Text = lex.Quote(token.Text)
		}
		out = append(out, token.Text)
	}
	return out
}

// partner is where the parenthesis that is token i is closed.
func partner(tokens []string, i int) int {
	for deep := 0; ; i++ {
		switch tokens[i] {
		case "(":
			deep++
		case ")":
			deep--
		}
		if deep == 0 {
			return i
		}
	}
}

// form is a file's tokens with the gaps of the printed form, by another way than Print's: of each token and the one ahead of it.
func form(tokens []string) string {
	out, last := "", ""
	blocks := 0
	var braces []bool // of what is open, whether it is a block
	lineBegins := true
	for _, s := range tokens {
		opens := s == "{" && !strings.Contains(" = ( [ , : + == != in not if ", " "+last+" ")
		shuts := s == "}" && braces[len(braces)-1]
		if shuts {
			blocks--
		}
		spaces := " = == != + in "
		switch {
		case s == "else":
			out += " "
		case lineBegins:
			if out != "" {
				out += "\n"
			}
			out += strings.Repeat("\t", blocks)
		case opens, strings.Contains(spaces, " "+s+" "), strings.Contains(spaces+", : for if rule not else ", " "+last+" "):
			out += " "
		}
		out += s
		lineBegins = s == ";" || opens || shuts
		if opens {
			blocks++
		}
		switch s {
		case "{":
			braces = append(braces, opens)
		case "}":
			braces = braces[:len(braces)-1]
		}
		last = s
	}
	if out != "" {
		out += "\n"
	}
	return out
}

// deep is the largest depth in the printed form of a node.
func deep(n api.Node) int {
	most := 0
	for i, k := range n.Kids {
		d := deep(k)
		two := k.Kind == Op && k.Text != "not"
		switch {
		case n.Kind != Op || !two:
		case n.Text == "not", n.Text == "+" && i == 1, k.Text != "+":
			d++
		}
		most = max(most, d)
	}
	if n.Kind == List || n.Kind == Dict || n.Kind == Block || n.Kind == Call || n.Kind == Op && n.Text == "not" {
		return most + 1
	}
	return most
}

// bodies say of each kind of node which kids it may have, each by the letter of its kind; E stands for an expr.
var bodies = func() []*regexp.Regexp {
	var out []*regexp.Regexp
	for _, s := range strings.Fields("x [bcdef]* E n Eh Ehh? g*h iE? [bcdef]* - - - E* (kE)* o* E x") {
		out = append(out, regexp.MustCompile("^(?:"+strings.ReplaceAll(strings.ReplaceAll(s, "E", "[ijklmnp]"), "-", "")+")$"))
	}
	return out
}()

var (
	aWord   = regexp.MustCompile(`^[a-zA-Z_][a-zA-Z_0-9]*$`)
	aReserv = regexp.MustCompile(`^(for|in|if|else|rule|not)$`)
	aType   = regexp.MustCompile(`^(text|bool|int|texts|files|labels)$`)
	aCount  = regexp.MustCompile(`^(0|[1-9][0-9]*)$`)
	aString = regexp.MustCompile(`^[^\x00-\x09\x0b-\x1f\x7f]*$`)
)

// isNode tells whether a node and its kids are as the chapter describes them.
func isNode(n api.Node) bool {
	if n.Kind < File || n.Kind > Op {
		return false
	}
	letters := ""
	for _, k := range n.Kids {
		if !isNode(k) {
			return false
		}
		letters += string(rune('a' + k.Kind - 1))
	}
	name := aWord.MatchString(n.Text) && !aReserv.MatchString(n.Text)
	switch n.Kind {
	case Assign, For, Rule, Name, Call:
		return name && bodies[n.Kind].MatchString(letters)
	case Param:
		return name && bodies[n.Kind].MatchString(letters) && aType.MatchString(n.Kids[0].Text)
	case Arg:
		return (name || n.Text == "") && bodies[n.Kind].MatchString(letters)
	case Number:
		v, _ := new(big.Int).SetString(n.Text, 10)
		return aCount.MatchString(n.Text) && v.IsInt64() && letters == ""
	case Text:
		return aString.MatchString(n.Text) && letters == ""
	case Op:
		count := map[string]string{"not": "^E$", "+": "^EE$", "==": "^EE$", "!=": "^EE$", "in": "^EE$"}[n.Text]
		return count != "" && regexp.MustCompile(strings.ReplaceAll(count, "E", "[ijklmnp]")).MatchString(letters)
	}
	return n.Text == "" && bodies[n.Kind].MatchString(letters)
}

// Short forms of nodes.

func file(kids ...api.Node) api.Node { return api.Node{Kind: File, Kids: kids} }

func node(kind int, text string, kids ...api.Node) api.Node {
	return api.Node{Kind: kind, Text: text, Kids: kids}
}

func named(s string) api.Node { return node(Name, s) }

func op(s string, kids ...api.Node) api.Node { return node(Op, s, kids...) }

// set is a file with one Assign of an expr.
func set(e api.Node) api.Node { return file(node(Assign, "x", e)) }

// P10.2: the printed form of each form of statement, param, prim, entry and arg.
func TestPrinted(t *testing.T) {
	for _, c := range []struct{ text, want string }{
		{"", ""}, {"# so\n", ""}, {"x=1;", "x = 1;\n"}, {"x=1;y=\"a\";", "x = 1;\ny = \"a\";\n"}, {"f();", "f();\n"}, {"f(1);g();", "f(1);\ng();\n"},
		{"f(a,b=c,d==e);", "f(a, b = c, d == e);\n"}, {"f(a=b==c);", "f(a = b == c);\n"}, {"f((a)+(b));", "f(a + b);\n"}, {"f(g(h(),i=[j]));", "f(g(h(), i = [j]));\n"},
		{"for x in l{}", "for x in l {\n}\n"}, {"for x in l{f();}", "for x in l {\n\tf();\n}\n"}, {"for x in a in b{f();g();}", "for x in a in b {\n\tf();\n\tg();\n}\n"}, {"for x in{}{}", "for x in {} {\n}\n"}, {"for x in(not a){}", "for x in not a {\n}\n"},
		{"if a{}", "if a {\n}\n"}, {"if a{}else{}", "if a {\n} else {\n}\n"}, {"if a{f();}else{g();}", "if a {\n\tf();\n} else {\n\tg();\n}\n"}, {"if{}{}", "if {} {\n}\n"}, {"if(a){}", "if a {\n}\n"}, {"if not(a){}", "if not a {\n}\n"},
		{"if a{if b{if c{x=1;}else{}}}else{if d{y=2;}z=3;}w=4;", "if a {\n\tif b {\n\t\tif c {\n\t\t\tx = 1;\n\t\t} else {\n\t\t}\n\t}\n} else {\n\tif d {\n\t\ty = 2;\n\t}\n\tz = 3;\n}\nw = 4;\n"},
		{"rule r(){}", "rule r() {\n}\n"}, {"rule r(a:text){f();}", "rule r(a: text) {\n\tf();\n}\n"}, {"rule r(a:bool,b:int=1,c:texts=[\"a\"],d:files,e:labels){}", "rule r(a: bool, b: int = 1, c: texts = [\"a\"], d: files, e: labels) {\n}\n"}, {"rule r(a:int=(b==c)){rule s(){}}", "rule r(a: int = b == c) {\n\trule s() {\n\t}\n}\n"},
		{"x=[];", "x = [];\n"}, {"x=[1];", "x = [1];\n"}, {"x=[1,[2,3],{}];", "x = [1, [2, 3], {}];\n"}, {"x={};", "x = {};\n"}, {"x={\"a\":1};", "x = {\"a\": 1};\n"}, {"x={\"a\":1,\"\":{\"b\":[]}};", "x = {\"a\": 1, \"\": {\"b\": []}};\n"},
		{"x={\"a\":b==c,\"a\":(not d)};", "x = {\"a\": b == c, \"a\": not d};\n"}, {"x=\"\\\"\\\\\\n\xff'\";", "x = \"\\\"\\\\\\n\xff'\";\n"}, {"x=0+9223372036854775807;", "x = 0 + 9223372036854775807;\n"}, {"x=((f()));", "x = f();\n"},
		{"rule text(int:int){bool=files;}", "rule text(int: int) {\n\tbool = files;\n}\n"}, {"if a == {\"k\": {}} {} else {x = {};}", "if a == {\"k\": {}} {\n} else {\n\tx = {};\n}\n"},
	} {
		n, why, _ := Read(c.text)
		if got, e := Print(n); why != api.OK || e != api.OK || got != c.want {
			t.Errorf("%q: %q, %v, not %q", c.text, got, e, c.want)
		}
		checkForm(t, n)
	}
}

// P10.2: an operand is in parentheses exactly where another tree would be read without them: each Op at each side of each Op.
func TestParentheses(t *testing.T) {
	a, b, c := named("a"), named("b"), named("c")
	for _, s := range []string{"==", "!=", "in", "+"} {
		for _, inner := range []string{"==", "!=", "in", "+"} {
			left, right := op(s, op(inner, a, b), c), op(s, a, op(inner, b, c))
			wantLeft, wantRight := "(a "+inner+" b) "+s+" c", "a "+s+" (b "+inner+" c)"
			if inner == "+" {
				wantLeft = "a + b " + s + " c"
			}
			if inner == "+" && s != "+" {
				wantRight = "a " + s + " b + c"
			}
			for n, want := range map[*api.Node]string{&left: wantLeft, &right: wantRight} {
				for _, kind := range []string{"", "[", "f(", "not"} {
					checkOne(t, kind, *n, want)
				}
			}
		}
		checkOne(t, "", op("not", op(s, a, b)), "not (a "+s+" b)")
		checkOne(t, "", op(s, op("not", a), b), "not a "+s+" b")
		checkOne(t, "", op(s, a, op("not", b)), "a "+s+" not b")
		checkOne(t, "", op(s, op("not", op(s, a, b)), op("not", op("+", b, c))), "not (a "+s+" b) "+s+" not (b + c)")
		for text, prim := range map[string]api.Node{"a": a, "1": node(Number, "1"), "\"\"": node(Text, ""), "[]": node(List, ""), "{}": node(Dict, ""), "f()": node(Call, "f"), "not b": op("not", b), "not not b": op("not", op("not", b))} {
			checkOne(t, "", op(s, prim, c), text+" "+s+" c")
			checkOne(t, "", op(s, a, prim), "a "+s+" "+text)
			checkOne(t, "", op("not", prim), "not "+text)
		}
	}
	checkOne(t, "", op("+", op("+", op("+", a, b), c), a), "a + b + c + a")
	checkOne(t, "", op("+", a, op("+", b, op("+", c, a))), "a + (b + (c + a))")
	checkOne(t, "", op("+", op("+", a, op("+", b, c)), a), "a + (b + c) + a")
	checkOne(t, "", op("==", op("+", a, op("in", b, c)), op("!=", a, b)), "a + (b in c) == (a != b)")
	checkOne(t, "", op("not", op("not", op("==", a, op("not", b)))), "not not (a == not b)")
}

// checkOne tells where an expr, alone or in another one, is not printed as wanted.
func checkOne(t *testing.T, kind string, n api.Node, want string) {
	t.Helper()
	switch kind {
	case "[":
		n, want = node(List, "", n, n), "["+want+", "+want+"]"
	case "f(":
		n, want = node(Call, "f", node(Arg, "", n), node(Arg, "x", n)), "f("+want+", x = "+want+")"
	case "not":
		n, want = op("not", n), "not ("+want+")"
	}
	if got, why := Print(set(n)); why != api.OK || got != "x = "+want+";\n" {
		t.Errorf("%s: %q, %v, not %q", told(n, false), got, why, want)
	}
	checkForm(t, set(n))
}

// P10.2, P10.4: what is read of any file is printed by the rules for gaps, with no parenthesis too many, and read and printed the same again; places do not matter.
func TestForms(t *testing.T) {
	r := rand.New(rand.NewSource(13))
	for i := range 1000 {
		tokens, _ := someFile(r, i%6)
		if len(tokens) > 1000 {
			continue
		}
		text, _ := laid(tokens, someGaps(r))
		n, why, _ := Read(text)
		if why != api.OK {
			t.Fatalf("%q: %v", text, why)
		}
		checkPrinted(t, n)
		want, _ := Print(n)
		before := told(n, true)
		if got, why := Print(moved(r, n)); got != want || why != api.OK {
			t.Fatalf("%q: %q, %v, with other places", want, got, why)
		}
		if told(n, true) != before {
			t.Fatalf("%q: Print changed its node", want)
		}
	}
}

// moved is a node with any places.
func moved(r *rand.Rand, n api.Node) api.Node {
	out := api.Node{Kind: n.Kind, Text: n.Text, Place: api.Place{Line: r.Intn(5) - 2, Column: r.Int()}}
	for _, k := range n.Kids {
		out.Kids = append(out.Kids, moved(r, k))
	}
	return out
}

// P10.3: nodes that are no such File: each field, each number of kids and each kind of kid.
func TestNoFiles(t *testing.T) {
	a, one, key := named("a"), node(Number, "1"), node(Text, "k")
	block, call, param := node(Block, ""), node(Call, "f"), node(Param, "p", named("int"))
	arg := node(Arg, "", a)
	all := []api.Node{{}, file(), node(Assign, "x", a), node(Do, "", call), node(For, "x", a, block), node(If, "", a, block), node(Rule, "r", block), param, block, a, one, key, node(List, ""), node(Dict, ""), call, arg, op("not", a), op("+", a, a), {Kind: 17}, {Kind: -1}}
	expr := []int{9, 10, 11, 12, 13, 14, 16, 17}
	stmt := []int{2, 3, 4, 5, 6}
	for _, c := range []struct {
		hole func(n api.Node) api.Node // a file with a node somewhere
		fits []int                     // of all
	}{
		{func(n api.Node) api.Node { return n }, []int{1}},
		{func(n api.Node) api.Node { return file(n) }, stmt},
		{func(n api.Node) api.Node { return file(all[2], n, all[3]) }, stmt},
		{func(n api.Node) api.Node { return set(n) }, expr},
		{func(n api.Node) api.Node { return file(node(Do, "", n)) }, []int{14}},
		{func(n api.Node) api.Node { return file(node(For, "x", n, block)) }, expr},
		{func(n api.Node) api.Node { return file(node(For, "x", a, n)) }, []int{8}},
		{func(n api.Node) api.Node { return file(node(If, "", n, block)) }, expr},
		{func(n api.Node) api.Node { return file(node(If, "", n, block, block)) }, expr},
		{func(n api.Node) api.Node { return file(node(If, "", a, n)) }, []int{8}},
		{func(n api.Node) api.Node { return file(node(If, "", a, n, block)) }, []int{8}},
		{func(n api.Node) api.Node { return file(node(If, "", a, block, n)) }, []int{8}},
		{func(n api.Node) api.Node { return file(node(Rule, "r", n)) }, []int{8}},
		{func(n api.Node) api.Node { return file(node(Rule, "r", n, block)) }, []int{7}},
		{func(n api.Node) api.Node { return file(node(Rule, "r", param, n, block)) }, []int{7}},
		{func(n api.Node) api.Node { return file(node(Rule, "r", param, n)) }, []int{8}},
		{func(n api.Node) api.Node { return file(node(Rule, "r", node(Param, "p", n), block)) }, nil},
		{func(n api.Node) api.Node { return file(node(Rule, "r", node(Param, "p", named("int"), n), block)) }, expr},
		{func(n api.Node) api.Node { return file(node(If, "", a, node(Block, "", n))) }, stmt},
		{func(n api.Node) api.Node { return file(node(If, "", a, node(Block, "", all[2], n))) }, stmt},
		{func(n api.Node) api.Node { return set(node(Name, "a", n)) }, nil},
		{func(n api.Node) api.Node { return set(node(Number, "1", n)) }, nil},
		{func(n api.Node) api.Node { return set(node(Text, "k", n)) }, nil},
		{func(n api.Node) api.Node { return set(node(Dict, "", node(Text, "k", n), a)) }, nil},
		{func(n api.Node) api.Node { return file(node(Rule, "r", node(Param, "p", node(Name, "int", n)), block)) }, nil},
		{func(n api.Node) api.Node { return set(node(List, "", n)) }, expr},
		{func(n api.Node) api.Node { return set(node(List, "", a, n, a)) }, expr},
		{func(n api.Node) api.Node { return set(node(Dict, "", n, a)) }, []int{11}},
		{func(n api.Node) api.Node { return set(node(Dict, "", key, n)) }, expr},
		{func(n api.Node) api.Node { return set(node(Dict, "", key, a, n, a)) }, []int{11}},
		{func(n api.Node) api.Node { return set(node(Dict, "", key, a, key, n)) }, expr},
		{func(n api.Node) api.Node { return set(node(Dict, "", n)) }, nil},
		{func(n api.Node) api.Node { return set(node(Dict, "", key, a, n)) }, nil},
		{func(n api.Node) api.Node { return set(node(Call, "f", n)) }, []int{15}},
		{func(n api.Node) api.Node { return file(node(Do, "", node(Call, "f", arg, n))) }, []int{15}},
		{func(n api.Node) api.Node { return set(node(Call, "f", node(Arg, "", n))) }, expr},
		{func(n api.Node) api.Node { return set(node(Call, "f", node(Arg, "a", n))) }, expr},
		{func(n api.Node) api.Node { return set(op("not", n)) }, expr},
		{func(n api.Node) api.Node { return set(op("+", n, a)) }, expr},
		{func(n api.Node) api.Node { return set(op("+", a, n)) }, expr},
		{func(n api.Node) api.Node { return set(op("==", n, a)) }, expr},
		{func(n api.Node) api.Node { return set(op("in", a, n)) }, expr},
	} {
		for i, n := range all {
			whole := c.hole(n)
			checkFile(t, whole, slices.Contains(c.fits, i))
		}
	}
}

// checkFile tells where Print does not answer as it should for a node that is a file, or none.
func checkFile(t *testing.T, n api.Node, is bool) {
	t.Helper()
	if isNode(n) && n.Kind == File != is {
		t.Fatalf("the model is wrong with %v", n)
	}
	text, why := Print(n)
	switch {
	case !is && (why != api.ErrForm || text != ""):
		t.Errorf("%v: %q, %v, though it is no file", n, text, why)
	case is && why != api.OK && why != api.ErrLimit:
		t.Errorf("%v: %q, %v, though it is a file", n, text, why)
	case is:
		checkForm(t, n)
	}
}

// P10.3: the numbers of kids: of each kind of node with none to four of the right kinds.
func TestNumbersOfKids(t *testing.T) {
	a, block, key := named("a"), node(Block, ""), node(Text, "k")
	for _, c := range []struct {
		kind  int
		text  string
		kids  []api.Node
		right string // of the numbers from 0 on, which are right
		hole  func(n api.Node) api.Node
	}{
		{Assign, "x", []api.Node{a, a, a, a}, "-+---", func(n api.Node) api.Node { return file(n) }},
		{Do, "", []api.Node{node(Call, "f"), node(Call, "g"), a, a}, "-+---", func(n api.Node) api.Node { return file(n) }},
		{For, "x", []api.Node{a, block, block, block}, "--+--", func(n api.Node) api.Node { return file(n) }},
		{If, "", []api.Node{a, block, block, block}, "--++-", func(n api.Node) api.Node { return file(n) }},
		{Rule, "r", []api.Node{block, block, block, block}, "-+---", func(n api.Node) api.Node { return file(n) }},
		{Param, "p", []api.Node{named("int"), named("int"), a, a}, "-++--", func(n api.Node) api.Node { return file(node(Rule, "r", n, block)) }},
		{Name, "a", []api.Node{a, a, a, a}, "+----", set}, {Number, "1", []api.Node{a, a, a, a}, "+----", set}, {Text, "k", []api.Node{a, a, a, a}, "+----", set},
		{List, "", []api.Node{a, a, a, a}, "+++++", set}, {Dict, "", []api.Node{key, a, key, a}, "+-+-+", set}, {Dict, "", []api.Node{key, key, key, key}, "+-+-+", set}, {Call, "f", []api.Node{node(Arg, "", a), node(Arg, "", a), node(Arg, "", a), node(Arg, "", a)}, "+++++", set},
		{Arg, "", []api.Node{a, a, a, a}, "-+---", func(n api.Node) api.Node { return set(node(Call, "f", n)) }}, {Arg, "a", []api.Node{a, a, a, a}, "-+---", func(n api.Node) api.Node { return set(node(Call, "f", n)) }},
		{Op, "not", []api.Node{a, a, a, a}, "-+---", set}, {Op, "+", []api.Node{a, a, a, a}, "--+--", set}, {Op, "==", []api.Node{a, a, a, a}, "--+--", set}, {Op, "!=", []api.Node{a, a, a, a}, "--+--", set}, {Op, "in", []api.Node{a, a, a, a}, "--+--", set}, {Op, "", []api.Node{a, a, a, a}, "-----", set},
		{Block, "", []api.Node{node(Assign, "x", a), node(Assign, "x", a), node(Assign, "x", a), node(Assign, "x", a)}, "+++++", func(n api.Node) api.Node { return file(node(Rule, "r", n)) }},
		{File, "", []api.Node{node(Assign, "x", a), node(Assign, "x", a), node(Assign, "x", a), node(Assign, "x", a)}, "+++++", func(n api.Node) api.Node { return n }},
	} {
		for n := range 5 {
			checkFile(t, c.hole(node(c.kind, c.text, c.kids[:n]...)), c.right[n] == '+')
		}
	}
}

// P10.3: the texts of nodes: names, words of types, numbers, texts, operators, and those that must be empty.
func TestTexts(t *testing.T) {
	a, block, call := named("a"), node(Block, ""), node(Call, "f")
	names := map[string]bool{"": false, "a": true, "Z": true, "_": true, "a1_B": true, "zz": true, "A9": true, "1": false, "1a": false, "0": false, "a b": false, " a": false, "a ": false, "a#": false, "a-b": false, "a.b": false, "é": false, "aé": false, "a\x00": false, "\"a\"": false, "a=1": false, "+": false, "a\n": false, "[": false, "`": false, "@": false, "{": false, "a/": false, "a:": false,
		"for": false, "in": false, "if": false, "else": false, "rule": false, "not": false, "fo": true, "fors": true, "For": true, "IN": true, "text": true, "bool": true, "int": true, "texts": true, "files": true, "labels": true, "NAME": true, "TEXT": true, "action": true}
	for b := range 256 {
		s := string([]byte{byte(b)})
		names[s], names[s+"a"], names["a"+s], names["a"+s+"a"] = aWord.MatchString(s), aWord.MatchString(s+"a"), aWord.MatchString("a"+s), aWord.MatchString("a"+s+"a")
	}
	for s, ok := range names {
		checkFile(t, file(node(Assign, s, a)), ok)
		checkFile(t, file(node(For, s, a, block)), ok)
		checkFile(t, file(node(Rule, s, block)), ok)
		checkFile(t, file(node(Rule, "r", node(Param, s, named("int")), block)), ok)
		checkFile(t, set(named(s)), ok)
		checkFile(t, set(node(Call, s)), ok)
		checkFile(t, file(node(Do, "", node(Call, s))), ok)
		checkFile(t, set(node(Call, "f", node(Arg, s, a))), ok || s == "")
		if s != "" {
			checkFile(t, set(node(List, s)), false)
			checkFile(t, set(node(Dict, s)), false)
			checkFile(t, file(node(Do, s, call)), false)
			checkFile(t, file(node(If, s, a, block)), false)
			checkFile(t, file(node(If, "", a, node(Block, s))), false)
			checkFile(t, node(File, s), false)
		}
	}
	for s, ok := range map[string]bool{"text": true, "bool": true, "int": true, "texts": true, "files": true, "labels": true, "": false, "a": false, "Text": false, "label": false, "file": false, "in": false, "ints": false, "text ": false, "list": false} {
		checkFile(t, file(node(Rule, "r", node(Param, "p", named(s)), block)), ok)
		checkFile(t, file(node(Rule, "r", node(Param, "p", named(s), a), block)), ok)
		checkFile(t, file(node(Rule, "r", node(Param, "p", node(Text, s)), block)), false)
	}
	for s, ok := range map[string]bool{"0": true, "1": true, "9": true, "10": true, "9223372036854775807": true, "9223372036854775808": false, "9223372036854775810": false, "10000000000000000000": false, "18446744073709551616": false, "99999999999999999999": false, strings.Repeat("9", 70000): false, "": false, "00": false, "01": false, "007": false, "00000000000000000000000": false, "-1": false, "+1": false, "1 ": false, " 1": false, "1#": false, "1a": false, "a": false, "1_0": false, "1.0": false, "1e9": false, "0x1": false, "1 1": false, "1;": false, "\"1\"": false, "١": false, "1\n": false, "1\x00": false} {
		checkFile(t, set(node(Number, s)), ok)
		checkFile(t, set(node(List, "", a, node(Number, s))), ok)
	}
	for b := range 256 {
		s := string([]byte{byte(b)})
		ok := (b >= 32 || b == 10) && b != 127
		for _, text := range []string{s, "a" + s, s + "a", "\"" + s + "\\"} {
			checkFile(t, set(node(Text, text)), ok)
			checkFile(t, set(node(Dict, "", node(Text, text), a)), ok)
		}
	}
	checkFile(t, set(node(Text, "")), true)
	for s, n := range map[string]int{"==": 2, "!=": 2, "in": 2, "+": 2, "not": 1, "": 0, "-": 0, "=": 0, "===": 0, " + ": 0, "and": 0, "Not": 0, "not ": 0, "!": 0, "<": 0, "if": 0, "++": 0} {
		checkFile(t, set(op(s, a)), n == 1)
		checkFile(t, set(op(s, a, a)), n == 2)
		checkFile(t, set(op("+", a, op("not", op(s, a, a)))), n == 2)
		checkFile(t, set(op("not", op(s, a))), n == 1)
	}
}

// changed is a node in which one thing is another, somewhere.
func changed(r *rand.Rand, n api.Node) api.Node {
	n.Kids = slices.Clone(n.Kids)
	if len(n.Kids) > 0 && r.Intn(6) > 0 {
		i := r.Intn(len(n.Kids))
		n.Kids[i] = changed(r, n.Kids[i])
		return n
	}
	some := []api.Node{{}, named("a"), named("int"), node(Text, "k"), node(Number, "1"), node(List, ""), node(Block, ""), node(Arg, "", named("b")), node(Call, "f"), op("not", named("a")), op("in", named("a"), named("b")), node(Assign, "x", named("a")), node(Do, "", node(Call, "f"))}
	switch i := r.Intn(len(n.Kids) + 1); r.Intn(5) {
	case 0:
		n.Kind = r.Intn(18)
	case 1:
		n.Text = pick(r, "", "a", "in", "not", "==", "+", "int", "1", "01", "x y", "\x01", "text", "9223372036854775807")
	case 2:
		n.Kids = append(n.Kids[:i], n.Kids[min(i+1, len(n.Kids)):]...)
	case 3:
		n.Kids = slices.Insert(n.Kids, i, some[r.Intn(len(some))])
	case 4:
		if i < len(n.Kids) {
			n.Kids[i] = some[r.Intn(len(some))]
		}
	}
	return n
}

// P10.3: nodes of files in which some things are changed are printed, or are no files, as the model says.
func TestChangedNodes(t *testing.T) {
	r := rand.New(rand.NewSource(14))
	files := 0
	for i := range 3000 {
		_, n := someFile(r, 1+i%2)
		for range 1 + r.Intn(2) {
			n = changed(r, n)
		}
		is := isNode(n) && n.Kind == File
		checkFile(t, n, is)
		if is {
			files++
		}
	}
	if files < 300 || files > 2700 {
		t.Error(files, "files")
	}
}

// P10.3: a depth in the printed form of 60 is printed, one of 61 is not, also if it is one of parentheses that only the form has.
func TestPrintDepth(t *testing.T) {
	a := named("a")
	wraps := map[string]func(n api.Node) api.Node{
		"[": func(n api.Node) api.Node { return node(List, "", a, n) }, "{": func(n api.Node) api.Node { return node(Dict, "", node(Text, "k"), n) }, "f(": func(n api.Node) api.Node { return node(Call, "f", node(Arg, "", n)) }, "not": func(n api.Node) api.Node { return op("not", n) },
		"+ (": func(n api.Node) api.Node { return op("+", a, n) }, "== (": func(n api.Node) api.Node { return op("==", a, n) }, "( in": func(n api.Node) api.Node { return op("in", n, a) },
	}
	for kind, wrap := range wraps {
		free := strings.Contains(kind, " ") // the innermost operator needs no parentheses
		for n := 57; n < 65; n++ {
			e := a
			for range n {
				e = wrap(e)
			}
			want := api.OK
			if n > 61 || n == 61 && !free {
				want = api.ErrLimit
			}
			if text, why := Print(set(e)); why != want || (text == "") != (want != api.OK) {
				t.Errorf("%d times %s: %q, %v", n, kind, text, why)
			}
			if deep(set(e)) > 60 != (want != api.OK) {
				t.Fatal("the model is wrong with", kind)
			}
		}
	}
	for _, kind := range []int{For, If, Rule, -If} {
		for n := 58; n < 63; n++ {
			stmts := []api.Node{node(Assign, "x", a)}
			for range n {
				block := node(Block, "", stmts...)
				switch kind {
				case For:
					stmts = []api.Node{node(For, "x", a, block)}
				case If:
					stmts = []api.Node{node(If, "", a, block)}
				case -If:
					stmts = []api.Node{node(If, "", a, node(Block, ""), block)}
				case Rule:
					stmts = []api.Node{node(Rule, "r", block)}
				}
			}
			if text, why := Print(file(stmts...)); why == api.OK != (n <= 60) || why == api.ErrLimit != (n > 60) || (text == "") != (n > 60) {
				t.Errorf("%d blocks of %d: %v", n, kind, why)
			}
		}
	}
	// Depths next to each other do not add up.
	var many []api.Node
	for range 100 {
		many = append(many, op("not", node(List, "")), node(Call, "f"), node(Dict, ""), op("+", a, op("+", a, op("not", op("==", a, a)))))
	}
	if _, why := Print(file(node(Assign, "x", node(List, "", many...)), node(If, "", a, node(Block, ""), node(Block, "")))); why != api.OK {
		t.Error("next to each other:", why)
	}
	r := rand.New(rand.NewSource(15))
	count := map[bool]int{}
	for range 600 {
		n, _, _ := Read("x = " + pick(r, "a", "a + b", "a == b", "not a", "[]", "f()") + ";")
		e := n.Kids[0].Kids[0]
		for range 40 + r.Intn(60) {
			e = wraps[pick(r, "[", "{", "f(", "not", "+ (", "== (", "( in")](e)
			if r.Intn(3) == 0 {
				e = op("+", e, a)
			}
		}
		count[deep(set(e)) > 60]++
		checkForm(t, set(e))
	}
	if count[true] < 100 || count[false] < 100 {
		t.Error(count)
	}
}

// P10.3: a form of 65536 bytes is printed, one of more is not, whatever it is made of; that a node is no file goes ahead of both limits.
func TestPrintLimit(t *testing.T) {
	a := named("a")
	items := func(n int, item api.Node) []api.Node { return slices.Repeat([]api.Node{item}, n) }
	for _, c := range []struct {
		n    api.Node
		size int // of its form
	}{
		{file(node(Assign, strings.Repeat("x", 65530), a)), 65536}, {file(node(Assign, strings.Repeat("x", 65531), a)), 65537}, {set(named(strings.Repeat("y", 65530))), 65536}, {set(named(strings.Repeat("y", 65531))), 65537}, {file(node(Do, "", node(Call, strings.Repeat("f", 65532)))), 65536}, {file(node(Do, "", node(Call, strings.Repeat("f", 65533)))), 65537},
		{set(node(Text, strings.Repeat("é", 32764))), 65536}, {set(node(Text, strings.Repeat("a", 65529))), 65537}, {set(node(Text, strings.Repeat("\n", 32764))), 65536}, {set(node(Text, strings.Repeat("\"", 32765))), 65538}, {set(node(Text, strings.Repeat("a", 200000))), 200008}, {file(node(Assign, strings.Repeat("x", 70000), a)), 70006},
		{file(items(8192, node(Assign, "xy", node(Number, "1")))...), 65536}, {file(append(items(8191, node(Assign, "xy", node(Number, "1"))), node(Assign, "xy", node(Number, "12")))...), 65537}, {file(append(items(8192, node(Assign, "xy", node(Number, "1"))), node(Do, "", node(Call, "f")))...), 65541}, {file(append(items(8191, node(Assign, "xy", a)), node(Do, "", node(Call, "fghi")))...), 65536},
		{set(node(List, "", items(21843, a)...)), 65535}, {set(node(List, "", items(21844, a)...)), 65538}, {set(node(List, "", append(items(21842, a), named("ab"), a)...)), 65539}, {set(node(List, "", append(items(21842, a), named("ab"))...)), 65536},
		{file(node(Rule, "r", append(items(6551, node(Param, "pp", named("int"))), node(Block, ""))...)), 6551*9 + 11}, {file(node(If, "", a, node(Block, "", items(13106, node(Do, "", node(Call, "f")))...))), 13106*6 + 9},
		{file(node(If, "", a, node(Block, "", append(items(10920, node(Do, "", node(Call, "f"))), node(Do, "", node(Call, "fg")))...))), 65536}, {file(node(If, "", a, node(Block, "", append(items(10920, node(Do, "", node(Call, "f"))), node(Do, "", node(Call, "fgh")))...))), 65537}, {file(node(If, "", a, node(Block, ""), node(Block, ""))), 18},
	} {
		text, why := Print(c.n)
		if c.size <= 65536 && (why != api.OK || len(text) != c.size) || c.size > 65536 && (why != api.ErrLimit || text != "") {
			t.Errorf("%d bytes: %d, %v", c.size, len(text), why)
		}
		if why == api.OK {
			if n, e, _ := Read(text); e != api.OK || !Same(n, c.n) {
				t.Errorf("%d bytes are read as another node, %v", c.size, e)
			}
		}
	}
	long, deepest, wrong := node(Assign, strings.Repeat("x", 70000), a), node(Assign, "x", a), node(Assign, "in", a)
	for range 70 {
		deepest = node(If, "", a, node(Block, "", deepest))
	}
	for _, l := range [][]api.Node{{long, wrong}, {wrong, long}, {deepest, wrong}, {wrong, deepest}, {long, deepest, wrong}, {node(Assign, strings.Repeat("é", 70000), a)}, {node(Assign, strings.Repeat("x", 70000)+"-", a)}, {node(Assign, "x", node(Text, strings.Repeat("a", 70000)+"\x7f"))}, {node(Assign, "x", node(List, "", append(items(70000, a), node(Number, "00"))...))}, {long, node(If, "", a, node(Block, "", node(Rule, "r")))}} {
		if text, why := Print(file(l...)); why != api.ErrForm || text != "" {
			t.Errorf("%v, not ErrForm", why)
		}
	}
	for _, l := range [][]api.Node{{long, deepest}, {deepest, long}, {deepest}, {long}} {
		if text, why := Print(file(l...)); why != api.ErrLimit || text != "" {
			t.Errorf("%v, not ErrLimit", why)
		}
	}
}

// P10.3: two nodes are the Same if they are equal except for places, whether or not they are files.
func TestSame(t *testing.T) {
	r := rand.New(rand.NewSource(16))
	equal := 0
	for i := range 4000 {
		_, n := someFile(r, i%3)
		m := moved(r, n)
		if !Same(n, m) || !Same(m, n) || !Same(n, n) {
			t.Fatalf("%s: another one with other places", told(n, false))
		}
		other := changed(r, m)
		want := reflect.DeepEqual(bare(n), bare(other))
		if Same(n, other) != want || Same(other, n) != want {
			t.Fatalf("%v, %v: not %v", n, other, want)
		}
		if want {
			equal++
		}
	}
	if equal == 0 || equal > 2000 {
		t.Error(equal, "were equal")
	}
	a, b := named("a"), named("b")
	for _, c := range []struct {
		a, b api.Node
		same bool
	}{
		{api.Node{}, api.Node{}, true}, {api.Node{Kind: 99, Text: "\x00"}, api.Node{Kind: 99, Text: "\x00"}, true}, {api.Node{Kids: []api.Node{}}, api.Node{}, true}, {api.Node{Kind: -1}, api.Node{Kind: 1}, false},
		{a, b, false}, {a, node(Text, "a"), false}, {a, named("A"), false}, {a, named("a "), false}, {named(""), named(""), true}, {a, api.Node{Kind: Name, Text: "a", Place: api.Place{Line: 3, Column: 4}}, true},
		{op("+", a, b), op("+", a, b), true}, {op("+", a, b), op("+", b, a), false}, {op("+", a, b), op("in", a, b), false}, {op("+", a, b), op("+", a), false}, {op("+", a), op("+", a, b), false}, {op("+"), op("+", a), false}, {op("+", a, b), op("+", a, b, b), false}, {op("+", a, op("not", a)), op("+", a, op("not", b)), false}, {op("+", a, op("not", b)), op("+", a, op("not", b)), true}, {node(List, "", a), node(List, "", node(List, "", a)), false},
	} {
		if Same(c.a, c.b) != c.same || Same(c.b, c.a) != c.same {
			t.Errorf("%v, %v: not %v", c.a, c.b, c.same)
		}
	}
}

// bare is a node without places.
func bare(n api.Node) api.Node {
	out := api.Node{Kind: n.Kind, Text: n.Text}
	for _, k := range n.Kids {
		out.Kids = append(out.Kids, bare(k))
	}
	return out
}

// R3: Print and Same leave their nodes as they are.
func TestPrintApart(t *testing.T) {
	text := "rule r(a: text = not (b == c)) {\n\tf(1, a = [\"k\", {\"l\": 2}]);\n}\n"
	n, _, _ := Read(text)
	before := told(n, true)
	first, why := Print(n)
	if first != text || why != api.OK || !Same(n, n) || told(n, true) != before {
		t.Errorf("%q, %v", first, why)
	}
	n.Kids[0].Kids[0].Text = "other"
	n.Kids[0].Text = "in"
	if second, why := Print(n); second != "" || why != api.ErrForm || first != text {
		t.Errorf("%q, %v", second, why)
	}
}

// R1: nodes with very many levels are answered for.
func TestManyLevels(t *testing.T) {
	a := named("a")
	for _, c := range []struct {
		wrap func(n api.Node) api.Node
		why  api.Errno
	}{
		{func(n api.Node) api.Node { return op("+", n, a) }, api.ErrLimit}, {func(n api.Node) api.Node { return op("+", a, n) }, api.ErrLimit}, {func(n api.Node) api.Node { return op("not", n) }, api.ErrLimit}, {func(n api.Node) api.Node { return node(List, "", n) }, api.ErrLimit}, {func(n api.Node) api.Node { return node(Arg, "", n) }, api.ErrForm}, {func(n api.Node) api.Node { return node(Dict, "", node(Text, ""), n) }, api.ErrLimit}, {func(n api.Node) api.Node { return node(Call, "f", node(Arg, "", n)) }, api.ErrLimit}, {func(n api.Node) api.Node { return node(77, "", n) }, api.ErrForm},
	} {
		e, f := a, a
		for range 1 << 16 {
			e, f = c.wrap(e), c.wrap(f)
		}
		if text, why := Print(set(e)); why != c.why || text != "" {
			t.Errorf("%v, not %v", why, c.why)
		}
		if !Same(e, f) || Same(e, c.wrap(f)) || Same(c.wrap(set(e)), e) {
			t.Error("not the same")
		}
	}
	n := node(Assign, "x", a)
	for range 1 << 16 {
		n = node(If, "", a, node(Block, "", n))
	}
	if _, why := Print(file(n)); why != api.ErrLimit {
		t.Error("blocks:", why)
	}
	// As long as no depth is too large and the form is short enough, any number of levels is printed.
	e := a
	for range 16382 {
		e = op("+", e, a)
	}
	text, why := Print(set(e))
	if again, e2, _ := Read(text); why != api.OK || e2 != api.OK || !Same(again, set(e)) {
		t.Error("operands:", why, e2)
	}
}
