package parse

import (
	"math/rand"
	"reflect"
	"slices"
	"strings"
	"testing"

	"bloomery/api"
	"bloomery/lex"
)

// checkRead tells where Read of a text does not return a node, told without places.
func checkRead(t *testing.T, text, want string) {
	t.Helper()
	n, why, place := Read(text)
	if why != api.OK || place != (api.Place{}) {
		t.Errorf("%q: %v at %v", text, why, place)
	} else if got := told(n, false); got != want {
		t.Errorf("%q: %s, not %s", text, got, want)
	}
}

// P10.1: each form of statement, block and param, with nothing, one and several of what may be repeated.
func TestStatements(t *testing.T) {
	for _, c := range []struct{ text, want string }{
		{"", "File"}, {" \t\r\n", "File"}, {"# so", "File"}, {"# so\n", "File"},
		{"x = 1;", "File(Assign:x(Number:1))"}, {"x=1;y=2;x=3;", "File(Assign:x(Number:1) Assign:y(Number:2) Assign:x(Number:3))"}, {"x#\n=#=\n1#;\n;", "File(Assign:x(Number:1))"},
		{"f();", "File(Do(Call:f))"}, {"f(1);", "File(Do(Call:f(Arg(Number:1))))"}, {"f();g();x=f();", "File(Do(Call:f) Do(Call:g) Assign:x(Call:f))"}, {"f ( ) ;", "File(Do(Call:f))"},
		{"for x in l {}", "File(For:x(Name:l Block))"}, {"for x in l {f();}", "File(For:x(Name:l Block(Do(Call:f))))"}, {"for x in l {f();y=1;for y in m {}}", "File(For:x(Name:l Block(Do(Call:f) Assign:y(Number:1) For:y(Name:m Block))))"},
		{"for x in a in b {}", "File(For:x(Op:in(Name:a Name:b) Block))"}, {"for x in {} {}", "File(For:x(Dict Block))"}, {"for x in [] {}", "File(For:x(List Block))"}, {"for x in not a {}", "File(For:x(Op:not(Name:a) Block))"}, {"for x in f(){}", "File(For:x(Call:f Block))"},
		{"if a {}", "File(If(Name:a Block))"}, {"if a {} else {}", "File(If(Name:a Block Block))"}, {"if a {f();} else {g();h();}", "File(If(Name:a Block(Do(Call:f)) Block(Do(Call:g) Do(Call:h))))"}, {"if a {} if b {} else {}", "File(If(Name:a Block) If(Name:b Block Block))"},
		{"if a {if b {}} else {}", "File(If(Name:a Block(If(Name:b Block)) Block))"}, {"if a {if b {} else {}}", "File(If(Name:a Block(If(Name:b Block Block))))"}, {"if a {} else {if b {} else {}}", "File(If(Name:a Block Block(If(Name:b Block Block))))"},
		{"if {} {}", "File(If(Dict Block))"}, {"if {\"k\":1} {x=1;}", "File(If(Dict(Text:k Number:1) Block(Assign:x(Number:1))))"}, {"if a=={} {}", "File(If(Op:==(Name:a Dict) Block))"}, {"if a=={}{}else{}", "File(If(Op:==(Name:a Dict) Block Block))"}, {"if (a) {}", "File(If(Name:a Block))"},
		{"if not not a {}", "File(If(Op:not(Op:not(Name:a)) Block))"}, {"if a + {} == not {} {}", "File(If(Op:==(Op:+(Name:a Dict) Op:not(Dict)) Block))"}, {"if \"else\" {}", "File(If(Text:else Block))"},
		{"rule r() {}", "File(Rule:r(Block))"}, {"rule r() {f();x=1;}", "File(Rule:r(Block(Do(Call:f) Assign:x(Number:1))))"}, {"rule r() {rule s() {}}", "File(Rule:r(Block(Rule:s(Block))))"},
		{"rule r(a:text) {}", "File(Rule:r(Param:a(Name:text) Block))"}, {"rule r(a:bool,b:int) {}", "File(Rule:r(Param:a(Name:bool) Param:b(Name:int) Block))"},
		{"rule r(a:texts=1,b:files,c:labels=[]) {}", "File(Rule:r(Param:a(Name:texts Number:1) Param:b(Name:files) Param:c(Name:labels List) Block))"}, {"rule r(a:int=1==2) {}", "File(Rule:r(Param:a(Name:int Op:==(Number:1 Number:2)) Block))"},
		{"rule r(a:int,a:int) {}", "File(Rule:r(Param:a(Name:int) Param:a(Name:int) Block))"}, {"rule r(a:int=(1)) {}", "File(Rule:r(Param:a(Name:int Number:1) Block))"}, {"rule r(a:text={}) {}", "File(Rule:r(Param:a(Name:text Dict) Block))"},
		{"rule text(text:text=text,int:bool) {}", "File(Rule:text(Param:text(Name:text Name:text) Param:int(Name:bool) Block))"}, {"rule action() { action(); }", "File(Rule:action(Block(Do(Call:action))))"},
		{"for text in texts {bool = files;}", "File(For:text(Name:texts Block(Assign:bool(Name:files))))"}, {"int();labels = int;", "File(Do(Call:int) Assign:labels(Name:int))"},
		{"inn = iff + nott; elsee();", "File(Assign:inn(Op:+(Name:iff Name:nott)) Do(Call:elsee))"}, {"In = NOT;For();", "File(Assign:In(Name:NOT) Do(Call:For))"}, {"NAME = TEXT;NUMBER(TYPE);", "File(Assign:NAME(Name:TEXT) Do(Call:NUMBER(Arg(Name:TYPE))))"},
	} {
		checkRead(t, c.text, c.want)
	}
}

// P10.1: each form of expr, prim, entry and arg, with nothing, one and several of what may be repeated, and what follows a NAME.
func TestExprs(t *testing.T) {
	for _, c := range []struct{ text, want string }{
		{"a", "Name:a"}, {"12", "Number:12"}, {"0", "Number:0"}, {"9223372036854775807", "Number:9223372036854775807"}, {`""`, "Text"}, {`"a\n\"\\"`, "Text:a\n\"\\"}, {`"in"`, "Text:in"}, {`"("`, "Text:("},
		{"[]", "List"}, {"[a]", "List(Name:a)"}, {"[1,[],\"k\",a==b]", "List(Number:1 List Text:k Op:==(Name:a Name:b))"}, {"[(a),not b]", "List(Name:a Op:not(Name:b))"}, {"[[[]]]", "List(List(List))"},
		{"{}", "Dict"}, {`{"k":1}`, "Dict(Text:k Number:1)"}, {`{"k":1,"":{},"k":a in b}`, "Dict(Text:k Number:1 Text Dict Text:k Op:in(Name:a Name:b))"}, {`{"a":"b","c":"d"}`, "Dict(Text:a Text:b Text:c Text:d)"},
		{"f()", "Call:f"}, {"f(1)", "Call:f(Arg(Number:1))"}, {"f(a)", "Call:f(Arg(Name:a))"}, {"f(a=1)", "Call:f(Arg:a(Number:1))"}, {"f(1,a=2,b)", "Call:f(Arg(Number:1) Arg:a(Number:2) Arg(Name:b))"}, {"f(a=b,a=c)", "Call:f(Arg:a(Name:b) Arg:a(Name:c))"},
		{"f(a==1)", "Call:f(Arg(Op:==(Name:a Number:1)))"}, {"f(a=b==c)", "Call:f(Arg:a(Op:==(Name:b Name:c)))"}, {"f(a(b))", "Call:f(Arg(Call:a(Arg(Name:b))))"}, {"f(a=b())", "Call:f(Arg:a(Call:b))"}, {"f(a+b)", "Call:f(Arg(Op:+(Name:a Name:b)))"}, {"f(a!=b)", "Call:f(Arg(Op:!=(Name:a Name:b)))"}, {"f(a in b)", "Call:f(Arg(Op:in(Name:a Name:b)))"},
		{"f(text=text)", "Call:f(Arg:text(Name:text))"}, {"f((a))", "Call:f(Arg(Name:a))"}, {"f(f)", "Call:f(Arg(Name:f))"}, {"f([a])", "Call:f(Arg(List(Name:a)))"}, {"f(\"a\")", "Call:f(Arg(Text:a))"}, {"f(not a)", "Call:f(Arg(Op:not(Name:a)))"},
		{"f (a)", "Call:f(Arg(Name:a))"}, {"f\n#(\n(a\n=\n1)", "Call:f(Arg:a(Number:1))"}, {"text(int)", "Call:text(Arg(Name:int))"},
		{"(a)", "Name:a"}, {"(((a)))", "Name:a"}, {"([])", "List"}, {"(f())", "Call:f"}, {"(a==b)", "Op:==(Name:a Name:b)"},
		{"a==b", "Op:==(Name:a Name:b)"}, {"a!=b", "Op:!=(Name:a Name:b)"}, {"a in b", "Op:in(Name:a Name:b)"}, {"a+b", "Op:+(Name:a Name:b)"}, {"not a", "Op:not(Name:a)"},
		{"a+b+c", "Op:+(Op:+(Name:a Name:b) Name:c)"}, {"a+b+c+d", "Op:+(Op:+(Op:+(Name:a Name:b) Name:c) Name:d)"}, {"a+(b+c)", "Op:+(Name:a Op:+(Name:b Name:c))"}, {"(a+b)+c", "Op:+(Op:+(Name:a Name:b) Name:c)"}, {"(a+b)+(c+d)", "Op:+(Op:+(Name:a Name:b) Op:+(Name:c Name:d))"}, {"a+(b+c)+d", "Op:+(Op:+(Name:a Op:+(Name:b Name:c)) Name:d)"}, {"a+(b+(c+d))", "Op:+(Name:a Op:+(Name:b Op:+(Name:c Name:d)))"},
		{"a+b==c+d", "Op:==(Op:+(Name:a Name:b) Op:+(Name:c Name:d))"}, {"a+(b==c)+d", "Op:+(Op:+(Name:a Op:==(Name:b Name:c)) Name:d)"}, {"(a==b)==c", "Op:==(Op:==(Name:a Name:b) Name:c)"}, {"a==(b==c)", "Op:==(Name:a Op:==(Name:b Name:c))"}, {"(a in b)!=(c==d)", "Op:!=(Op:in(Name:a Name:b) Op:==(Name:c Name:d))"},
		{"not a+b", "Op:+(Op:not(Name:a) Name:b)"}, {"a+not b", "Op:+(Name:a Op:not(Name:b))"}, {"not a+not b", "Op:+(Op:not(Name:a) Op:not(Name:b))"}, {"not a==not b", "Op:==(Op:not(Name:a) Op:not(Name:b))"}, {"not (a+b)", "Op:not(Op:+(Name:a Name:b))"}, {"not (a+b)+c", "Op:+(Op:not(Op:+(Name:a Name:b)) Name:c)"}, {"not a in b", "Op:in(Op:not(Name:a) Name:b)"}, {"not (a in b)", "Op:not(Op:in(Name:a Name:b))"},
		{"not not a", "Op:not(Op:not(Name:a))"}, {"not 1", "Op:not(Number:1)"}, {"not \"a\"", "Op:not(Text:a)"}, {"not f(a)", "Op:not(Call:f(Arg(Name:a)))"}, {"not []", "Op:not(List)"}, {"not {}", "Op:not(Dict)"}, {"not (a)", "Op:not(Name:a)"}, {"not ((a+b))", "Op:not(Op:+(Name:a Name:b))"},
		{"not{\"k\":not a}", "Op:not(Dict(Text:k Op:not(Name:a)))"}, {"1+[]+{}+f()+(a)+not a", "Op:+(Op:+(Op:+(Op:+(Op:+(Number:1 List) Dict) Call:f) Name:a) Op:not(Name:a))"}, {"a in b+c", "Op:in(Name:a Op:+(Name:b Name:c))"},
	} {
		checkRead(t, "x="+c.text+";", "File(Assign:x("+c.want+"))")
		checkRead(t, "if "+c.text+"{}", "File(If("+c.want+" Block))")
		checkRead(t, "rule r(a:int="+c.text+"){}", "File(Rule:r(Param:a(Name:int "+c.want+") Block))")
		checkRead(t, "f(a=("+c.text+"),[ "+c.text+" ]);", "File(Do(Call:f(Arg:a("+c.want+") Arg(List("+c.want+")))))")
	}
}

// P10.1: the places of nodes: of a File 1, 1; of an Op with two kids its sign; of all others their first token.
func TestPlaces(t *testing.T) {
	for _, c := range []struct{ text, want string }{
		{"", "File@1,1"}, {"\n\n # so\n", "File@1,1"}, {"\n  x\n = 1;", "File@1,1(Assign:x@2,3(Number:1@3,4))"},
		{"\n\tf(a,\n b = c\n, (d));", "File@1,1(Do@2,2(Call:f@2,2(Arg@2,4(Name:a@2,4) Arg:b@3,2(Name:c@3,6) Arg@4,3(Name:d@4,4))))"},
		{"for x in\n l + 1 { }", "File@1,1(For:x@1,1(Op:+@2,4(Name:l@2,2 Number:1@2,6) Block@2,8))"},
		{"if a\nin b {}\nelse\n{x=1;}", "File@1,1(If@1,1(Op:in@2,1(Name:a@1,4 Name:b@2,4) Block@2,6 Block@4,1(Assign:x@4,2(Number:1@4,4))))"},
		{" rule\nr(a:\n text,b\n:int = 1){}", "File@1,1(Rule:r@1,2(Param:a@2,3(Name:text@3,2) Param:b@3,7(Name:int@4,2 Number:1@4,8) Block@4,10))"},
		{"x=a+b+c;", "File@1,1(Assign:x@1,1(Op:+@1,6(Op:+@1,4(Name:a@1,3 Name:b@1,5) Name:c@1,7)))"},
		{"x=(a+b)==(c);", "File@1,1(Assign:x@1,1(Op:==@1,8(Op:+@1,5(Name:a@1,4 Name:b@1,6) Name:c@1,11)))"},
		{"x=not (a);", "File@1,1(Assign:x@1,1(Op:not@1,3(Name:a@1,8)))"}, {"x=(not a)!=not b;", "File@1,1(Assign:x@1,1(Op:!=@1,10(Op:not@1,4(Name:a@1,8) Op:not@1,12(Name:b@1,16))))"},
		{"x=([\"k\", (\"k\")]);", "File@1,1(Assign:x@1,1(List@1,4(Text:k@1,5 Text:k@1,11)))"}, {"x=({\"k\"\n:f()});", "File@1,1(Assign:x@1,1(Dict@1,4(Text:k@1,5 Call:f@2,2)))"},
		{"f((a)+b,(a+b));", "File@1,1(Do@1,1(Call:f@1,1(Arg@1,3(Op:+@1,6(Name:a@1,4 Name:b@1,7)) Arg@1,9(Op:+@1,11(Name:a@1,10 Name:b@1,12)))))"},
		{"f(a==b,not a,[],{});", "File@1,1(Do@1,1(Call:f@1,1(Arg@1,3(Op:==@1,4(Name:a@1,3 Name:b@1,6)) Arg@1,8(Op:not@1,8(Name:a@1,12)) Arg@1,14(List@1,14) Arg@1,17(Dict@1,17))))"},
		{"x=\"é\\n\"+a;", "File@1,1(Assign:x@1,1(Op:+@1,9(Text:é\n@1,3 Name:a@1,10)))"},
	} {
		n, why, place := Read(c.text)
		if got := told(n, true); got != c.want || why != api.OK || place != (api.Place{}) {
			t.Errorf("%q: %s, %v, %v, not %s", c.text, got, why, place, c.want)
		}
	}
}

// P10.1: wrong texts: the error is at the first token with which no file begins.
func TestWrong(t *testing.T) {
	for _, c := range []struct {
		text   string
		column int
	}{
		// Statements.
		{"1;", 1}, {"\"a\";", 1}, {"(f());", 1}, {";", 1}, {"}", 1}, {"{}", 1}, {"[];", 1}, {"=", 1}, {"not a;", 1}, {"in = 1;", 1}, {"else {}", 1}, {"else = 1;", 1}, {"f();;", 5}, {"x = 1; }", 8}, {"if a {} }", 9},
		{"x 1;", 3}, {"x == 1;", 3}, {"x;", 2}, {"x + 1;", 3}, {"x in y;", 3}, {"x: 1;", 2}, {"x y = 1;", 3}, {"x = ;", 5}, {"x = = 1;", 5}, {"x = 1,", 6}, {"x = 1 y = 2;", 7}, {"x = a b;", 7}, {"x = 1 2;", 7}, {"x = 1}", 6}, {"x = y = 1;", 7}, {"x = (y = 1);", 8}, {"x = 12ab;", 7},
		{"f() g();", 5}, {"f() + 1;", 5}, {"f() = 1;", 5}, {"f()();", 4}, {"f() == f();", 5}, {"f[1];", 2}, {"f{};", 2}, {"f() {}", 5}, {"f(),", 4},
		{"for = 1;", 5}, {"for (x) in l {}", 5}, {"for in l {}", 5}, {"for 1 in l {}", 5}, {"for \"x\" in l {}", 5}, {"for for in l {}", 5}, {"for x l {}", 7}, {"for x = l {}", 7}, {"for x, y in l {}", 6}, {"for x in in {}", 10}, {"for x in ; {}", 10}, {"for x in l;", 11}, {"for x in l f();", 12}, {"for x in a in b in c {}", 17}, {"for x in l {} else {}", 15}, {"for x \"in\" l {}", 7}, {"for x not in l {}", 7},
		{"if ;", 4}, {"if = 1;", 4}, {"if (a {}", 7}, {"if a x = 1;", 6}, {"if a;", 5}, {"if a == b == c {}", 11}, {"if if {}", 4}, {"if a {} else x = 1;", 14}, {"if a {} else if b {}", 14}, {"if a {} else {} else {}", 17}, {"if a else {}", 6}, {"if a {} else;", 13}, {"if {\"k\"} {}", 8}, {"if a \"else\" {}", 6},
		{"rule (", 6}, {"rule = 1;", 6}, {"rule in() {}", 6}, {"rule 1() {}", 6}, {"rule r {}", 8}, {"rule r = 1;", 8}, {"rule r();", 9}, {"rule r() f();", 10}, {"rule r(a) {}", 9}, {"rule r(a=1) {}", 9}, {"rule r(a:) {}", 10}, {"rule r(a:b) {}", 10}, {"rule r(a:\"text\") {}", 10}, {"rule r(a:1) {}", 10}, {"rule r(a:in) {}", 10}, {"rule r(a:Text) {}", 10}, {"rule r(a:label) {}", 10},
		{"rule r(a:text,) {}", 15}, {"rule r(,) {}", 8}, {"rule r(a:text b:int) {}", 15}, {"rule r(in:text) {}", 8}, {"rule r(1:text) {}", 8}, {"rule r(\"a\":text) {}", 8}, {"rule r(a:text=) {}", 15}, {"rule r(a:text==1) {}", 14}, {"rule r(a:text() ) {}", 14}, {"rule r(a:text+text) {}", 14}, {"rule r(a:text=1=2) {}", 16}, {"rule r(a:(text)) {}", 10}, {"rule r(a:text]", 14}, {"rule r(a: =1) {}", 11}, {"rule r((a:text)) {}", 8}, {"rule r() {} ;", 13},
		// Reserved words where a NAME is asked for.
		{"x = for;", 5}, {"x = in;", 5}, {"x = if;", 5}, {"x = else;", 5}, {"x = rule;", 5}, {"x = not;", 8}, {"for(1);", 4}, {"if(1);", 6}, {"rule(1);", 5}, {"in();", 1}, {"else();", 1}, {"not();", 1}, {"x = for();", 5}, {"x = rule(1);", 5}, {"x = a + in;", 9}, {"f(in=1);", 3}, {"f(for=1);", 3}, {"f(if=1);", 3}, {"f(else=1);", 3}, {"f(rule=1);", 3}, {"f(not=1);", 6}, {"for else in l {}", 5}, {"rule for() {}", 6}, {"rule r(not:int) {}", 8}, {"rule r(rule:int) {}", 8}, {"rule r(a:for) {}", 10},
		// Exprs.
		{"x = +1;", 5}, {"x = 1 +;", 8}, {"x = 1 + + 2;", 9}, {"x = 1 + == 2;", 9}, {"x = == 1;", 5}, {"x = 1 ==;", 9}, {"x = 1 in;", 9}, {"x = a == b == c;", 12}, {"x = a == b != c;", 12}, {"x = a in b in c;", 12}, {"x = a != b in c;", 12}, {"x = a + b == c + d == e;", 20}, {"x = a == b + c in d;", 16}, {"x = not not;", 12}, {"x = not == 1;", 9}, {"x = not + 1;", 9}, {"x = a not b;", 7}, {"x = a not in b;", 7}, {"x = not a b;", 11}, {"x = a \"b\";", 7}, {"x = \"a\" \"b\";", 9}, {"x = \"a\"(1);", 8}, {"x = 1(2);", 6}, {"x = a[1];", 6}, {"x = [](1);", 7}, {"x = (a)(b);", 8}, {"x = f(1)(2);", 9}, {"x = a{};", 6},
		{"x = [1 2];", 8}, {"x = [1,];", 8}, {"x = [,];", 6}, {"x = [,1];", 6}, {"x = [1,,2];", 8}, {"x = [1;", 7}, {"x = [1);", 7}, {"x = [a=1];", 7}, {"x = [a:1];", 7}, {"x = [};", 6}, {"x = [1}", 7}, {"x = ]", 5}, {"x = [\"k\":1];", 9},
		{"x = {a:1};", 6}, {"x = {1:1};", 6}, {"x = {\"a\"};", 9}, {"x = {\"a\" 1};", 10}, {"x = {\"a\":};", 10}, {"x = {\"a\":1,};", 12}, {"x = {,};", 6}, {"x = {\"a\":1 \"b\":2};", 12}, {"x = {\"a\"=1};", 9}, {"x = {\"a\"+\"b\":1};", 9}, {"x = {(\"a\"):1};", 6}, {"x = {\"a\":1];", 11}, {"x = {f();}", 6}, {"x = {\"a\":b:1}", 11}, {"x = {\"a\":1;}", 11}, {"x = {[", 6}, {"x = {not", 6},
		{"x = ();", 6}, {"x = (1;", 7}, {"x = (1,2);", 7}, {"x = (1];", 7}, {"x = );", 5}, {"x = (a b);", 8}, {"x = ((a);", 9},
		{"f(;", 3}, {"f(,);", 3}, {"f(1,);", 5}, {"f(1 2);", 5}, {"f(a b);", 5}, {"f(a=);", 5}, {"f(a=,b);", 5}, {"f(a=b=c);", 6}, {"f(1=2);", 4}, {"f(\"a\"=2);", 6}, {"f((a)=2);", 6}, {"f(a()=2);", 6}, {"f(a+b=2);", 6}, {"f(a:1);", 4}, {"f(1];", 4}, {"f([)", 4}, {"f(a;", 4}, {"f(a == b = c);", 10}, {"f(= 1);", 3}, {"f(a = = 1);", 7}, {"f(a (b) c);", 9},
	} {
		n, why, place := Read(c.text + " # so")
		if why != api.ErrForm || place != (api.Place{Line: 1, Column: c.column}) || told(n, true) != "?@0,0" {
			t.Errorf("%q: %v, %v at %v, not at %d", c.text, told(n, false), why, place, c.column)
		}
		if n, why, at := Read("\n\n" + c.text); why != api.ErrForm || at != (api.Place{Line: 3, Column: c.column}) || n.Kids != nil {
			t.Errorf("%q: %v at %v", c.text, why, at)
		}
	}
}

// P10.1: a text that ends too early: the error is at its end, with and without gaps behind the last token.
func TestEnds(t *testing.T) {
	for _, text := range []string{
		"x", "x =", "x = 1", "x = a", "x = a +", "x = a ==", "x = a in", "x = not", "x = [", "x = [1", "x = [1,", "x = [1]", "x = {", "x = {\"a\"", "x = {\"a\":", "x = {\"a\":1", "x = {\"a\":1,", "x = (", "x = (1", "x = f(", "x = f()", "x = (1)", "x = {}",
		"f", "f(", "f(a", "f(a=", "f(a=1", "f(a,", "f()", "for", "for x", "for x in", "for x in l", "for x in l {", "for x in {}", "for x in l {f();", "for x in l {f()", "if", "if a", "if {}", "if a {", "if a {} else", "if a {} else {", "if a == b",
		"rule", "rule r", "rule r(", "rule r(a", "rule r(a:", "rule r(a:text", "rule r(a:text=", "rule r(a:text=1", "rule r(a:text,", "rule r()", "rule r() {", "x = 1; y",
	} {
		for _, gap := range []struct {
			text         string
			line, column int // the column behind the text, or of its own on a later line
		}{{"", 1, 0}, {" ", 1, 1}, {"\t\r ", 1, 3}, {"#", 1, 1}, {" # é", 1, 5}, {"\n", 2, 1}, {"\r\n", 2, 1}, {"\n\n  ", 3, 3}, {" # so\n", 2, 1}, {"#\n#", 2, 2}, {"\n\r\n\t# \xff\"", 3, 6}} {
			want := api.Place{Line: gap.line, Column: gap.column}
			if gap.line == 1 {
				want.Column += len(text) + 1
			}
			if n, why, place := Read(text + gap.text); why != api.ErrForm || place != want || n.Kind != 0 {
				t.Errorf("%q: %v at %v, not at %v", text+gap.text, why, place, want)
			}
		}
	}
}

// P10.1: an error of layer 9 goes ahead of all others, wherever it is.
func TestLexErrors(t *testing.T) {
	deep := "x = " + strings.Repeat("[", 61)
	for _, c := range []struct {
		text         string
		why          api.Errno
		line, column int
	}{
		{"?", api.ErrForm, 1, 1}, {"x = ;\n?", api.ErrForm, 2, 1}, {"?\nx = ;", api.ErrForm, 1, 1}, {"x = 1;\n \"", api.ErrForm, 2, 2}, {"x = \"\\t\";", api.ErrForm, 1, 5}, {"x ! 1;", api.ErrForm, 1, 3}, {"x = 007;", api.ErrForm, 1, 5}, {"x = -1;", api.ErrForm, 1, 5},
		{"x = 99999999999999999999;", api.ErrRange, 1, 5}, {"; 9223372036854775808", api.ErrRange, 1, 3}, {"9223372036854775808", api.ErrRange, 1, 1}, {"x = [[9223372036854775808", api.ErrRange, 1, 7}, {"x = 9223372036854775808 ?", api.ErrRange, 1, 5}, {"x\n9223372036854775808", api.ErrRange, 2, 1}, {"x =\n00", api.ErrForm, 2, 1},
		{deep + "\n9223372036854775808", api.ErrRange, 2, 1}, {deep + "\n'", api.ErrForm, 2, 1}, {deep + "]", api.ErrLimit, 1, 65},
		{strings.Repeat(" ", 65537), api.ErrLimit, 1, 1}, {";" + strings.Repeat(" ", 65536), api.ErrLimit, 1, 1}, {"\n" + strings.Repeat("?", 65536), api.ErrLimit, 1, 1}, {"x = 1;" + strings.Repeat("\n", 65531), api.ErrLimit, 1, 1},
	} {
		n, why, place := Read(c.text)
		if why != c.why || place != (api.Place{Line: c.line, Column: c.column}) || told(n, true) != "?@0,0" {
			t.Errorf("%.40q: %v at %v, not %v at %d, %d", c.text, why, place, c.why, c.line, c.column)
		}
		if _, lexed, at := lex.All(c.text); lexed != api.OK && (lexed != why || at != place) {
			t.Errorf("%.40q: %v at %v, not layer 9's %v at %v", c.text, why, place, lexed, at)
		}
	}
	if n, why, _ := Read("x = 1;" + strings.Repeat("\n", 65530)); why != api.OK || len(n.Kids) != 1 {
		t.Error("a text of 65536 bytes:", why)
	}
	if n, why, _ := Read("x=" + strings.Repeat("a+", 32766) + "a;"); why != api.OK || len(n.Kids) != 1 {
		t.Error("many operands:", why)
	}
	if n, why, _ := Read(strings.Repeat("f();", 16384)); why != api.OK || len(n.Kids) != 16384 {
		t.Error("many statements:", why)
	}
}

// P10.1: a depth of 60 is one that a text may have, one of 61 is an error at its token, of each thing that has a depth.
func TestDepth(t *testing.T) {
	for _, c := range []struct {
		ahead, open, inner, shut, behind string
		at                               int // of the token in open
	}{
		{"", "if a {", "", "}", "", 5}, {"", "if a {} else {", "", "}", "", 5}, {"", "for x in l {", "", "}", "", 11}, {"", "rule r() {", "", "}", "", 9}, {"", "rule r(a:int, b:int) {", "", "}", "", 21}, {"", "rule r(a:int=[]) {", "", "}", "", 13},
		{"x=", "[", "", "]", ";", 0}, {"x=", "[1,", "a", "]", ";", 0}, {"x=", "(", "a", ")", ";", 0}, {"x=", "1+(", "a", ")", ";", 2}, {"x=", "1==(", "a", ")", ";", 3}, {"x=", "f(", "", ")", ";", 1}, {"x=", "f(1,b=", "a", ")", ";", 1}, {"", "f(", "", ")", ";", 1}, {"", "f(a=", "1", ")", ";", 1},
		{"x=", "{\"k\":", "a", "}", ";", 0}, {"x=", "{\"a\":1,\"k\":", "a", "}", ";", 0}, {"x=", "not ", "a", "", ";", 0}, {"if ", "not ", "a", "", "{}", 0},
	} {
		for n := 58; n < 64; n++ {
			_, why, place := Read(c.ahead + strings.Repeat(c.open, n) + c.inner + strings.Repeat(c.shut, n) + c.behind)
			at := len(c.ahead) + 60*len(c.open) + c.at + 1
			if n <= 60 && why != api.OK || n > 60 && (why != api.ErrLimit || place != (api.Place{Line: 1, Column: at})) {
				t.Errorf("%d times %q: %v at %v, not at %d", n, c.open, why, place, at)
			}
		}
	}
}

// P10.1: that a token cannot be there goes ahead of its depth, what is wrong behind one that is too deep does not count, and neither does what is closed.
func TestDepthAndForm(t *testing.T) {
	const form, limit = api.ErrForm, api.ErrLimit
	for ahead, l := range map[string][]struct {
		text string
		why  api.Errno
		at   int // of the bytes of text
	}{
		strings.Repeat("if a {", 60): {
			{"if a {", limit, 5}, {"if a", form, 4}, {"if", form, 2}, {"if a a", form, 5}, {"if {", limit, 3}, {"if not", limit, 3}, {"if a + {", limit, 7}, {"for {", form, 4}, {"for x in {", limit, 9}, {"for x in l {", limit, 11}, {"for x in l {;", limit, 11}, {"for x in l {?", form, 12},
			{"f(", limit, 1}, {"f[", form, 1}, {"f((", limit, 1}, {"x=f;f(", limit, 5}, {"{", form, 0}, {"(", form, 0}, {"not", form, 0}, {"[", form, 0}, {"x=a[", form, 3}, {"x=a(", limit, 3}, {"x=(;", limit, 2}, {"x=a+", form, 4}, {"x=1{", form, 3}, {"x=1 not", form, 4}, {"else{", form, 0},
			{"rule r(a:int){", limit, 13}, {"rule r((", form, 7}, {"rule r(a:int=[", limit, 13}, {"rule r(a:int=(", limit, 13}, {"rule r(a:[", form, 9}, {"rule r[", form, 6}, {"rule r(a:int", form, 12}, {"}else{", form, 6}, {"}else{if a{", limit, 10}, {"}if a {if a {", limit, 12},
		},
		"x=" + strings.Repeat("[", 60): {
			{"[", limit, 0}, {"]]", form, 2}, {"],[", form, 3}, {"],[[", limit, 3}, {"a[", form, 1}, {"a(", limit, 1}, {"(a)", limit, 0}, {"not a", limit, 0}, {"{", limit, 0}, {"{[", limit, 0}, {"a,f(", limit, 3}, {"a f(", form, 2}, {"a=(", form, 1}, {"]not", form, 1}, {")[", form, 0}, {";", form, 0}, {",[", form, 0},
			{"]],not a,[", form, 10}, {"]],not [", form, 8}, {"]],not [(", limit, 8}, {"]],not a+[(", form, 11}, {"]],not a,not [not", limit, 14}, {"]],not a,not [a in f(", limit, 20}, {"],not not", limit, 6}, {"],not f(", limit, 7}, {"],not a+f(", form, 10}, {"],not 1+not \"\"+not (", limit, 19},
		},
		"x=" + strings.Repeat("not ", 59): {{"not not", limit, 4}, {"not [", limit, 4}, {"not a(", limit, 5}, {"not a+(", form, 7}, {"not a==[not", form, 11}, {"not a+{\"k\":[", form, 12}, {"(not", limit, 1}, {"(a+b)+not", form, 9}, {"f()+f(f(", form, 8}, {"f(not", limit, 2}, {"a;f(", form, 4}},
	} {
		for _, c := range l {
			n, why, place := Read(ahead + c.text)
			if why != c.why || place != (api.Place{Line: 1, Column: len(ahead) + c.at + 1}) || n.Kind != 0 {
				t.Errorf("%s behind %.12q: %v at %d, not %v at %d", c.text, ahead, why, place.Column-len(ahead)-1, c.why, c.at)
			}
		}
	}
	nots := strings.Repeat("not ", 60)
	for _, text := range []string{
		"x=" + strings.Repeat("not a+", 100) + "a;", "x=[" + strings.Repeat("not (a),", 100) + "a];", "x=not a" + strings.Repeat("+not f(not a)", 100) + ";", strings.Repeat("if not a {} else {}", 100),
		strings.Repeat("if not not {\"k\":not a} {", 57) + strings.Repeat("}", 57), "x=" + nots + "a+" + nots + "a==" + strings.Repeat("(", 60) + "a" + strings.Repeat(")", 60) + ";", "if " + nots + "a {} x=" + nots + "a;",
	} {
		if _, why, place := Read(text); why != api.OK {
			t.Errorf("%q: %v at %v", text, why, place)
		}
	}
}

// P10.1: all rows of few tokens: where the first one is with which no file begins, or that they are a file.
func TestShortRows(t *testing.T) {
	all := strings.Fields("a text \"k\" 1 = == + ; ( ) [ ] { } , : for in if else rule not")
	follow(t, nil, all, 6)
	ops := strings.Fields("a == in + ( ) not ;")
	follow(t, []string{"x", "="}, ops, 6)
	follow(t, strings.Fields("f ("), strings.Fields("a = == ( ) , ;"), 6)
	follow(t, strings.Fields("x = {"), strings.Fields("\"k\" : , } { ;"), 7)
	follow(t, strings.Fields("rule r ("), strings.Fields("a int : , = ) {"), 6)
	follow(t, strings.Fields("if a"), strings.Fields("{ } else if a ;"), 7)
	follow(t, strings.Fields("for x in"), strings.Fields("in a not { } \"k\" :"), 6)
}

// follow checks all rows that begin with some tokens and have at most n more, of which no file begins with less than the last one.
func follow(t *testing.T, ahead, more []string, n int) {
	t.Helper()
	c := empty()
	for _, token := range ahead {
		c = c.read(token)
	}
	walk(t, ahead, more, c, n)
}

func walk(t *testing.T, row, more []string, c chart, n int) {
	t.Helper()
	why, at := api.ErrForm, len(row)
	switch {
	case c == nil:
		at--
	case c.whole():
		why = api.OK
	}
	text, places := spaced(row)
	want := places[at]
	if why == api.OK {
		want = api.Place{}
	}
	if file, got, place := Read(text); got != why || place != want || (file.Kind == File) != (why == api.OK) {
		t.Fatalf("%q: %v at %v, not %v at %v", text, got, place, why, want)
	}
	if c == nil || n == 0 {
		return
	}
	for _, token := range more {
		walk(t, append(slices.Clip(row), token), more, c.read(token), n-1)
	}
}

// split is the node of an expr's tokens by another way than Read's: it is divided at its last operator outside of all parentheses.
func split(tokens []string) string {
	deep, plus, compared := 0, 0, 0
	for i, s := range tokens {
		switch {
		case s == "(":
			deep++
		case s == ")":
			deep--
		case deep == 0 && s == "+":
			plus = i
		case deep == 0 && (s == "==" || s == "in"):
			compared = i
		}
	}
	at := plus
	if compared > 0 {
		at = compared
	}
	switch {
	case at > 0:
		return "Op:" + tokens[at] + "(" + split(tokens[:at]) + " " + split(tokens[at+1:]) + ")"
	case tokens[0] == "not":
		return "Op:not(" + split(tokens[1:]) + ")"
	case tokens[0] == "(":
		return split(tokens[1 : len(tokens)-1])
	case len(tokens) == 1:
		return "Name:" + tokens[0]
	case len(tokens) == 3:
		return "Call:" + tokens[0]
	}
	return "Call:" + tokens[0] + "(Arg(" + split(tokens[2:len(tokens)-1]) + "))"
}

// P10.1: all short exprs of operators and parentheses are the trees that their operators say.
func TestShortExprs(t *testing.T) {
	count := 0
	var grow func(row []string, n int)
	grow = func(row []string, n int) {
		text := "x = " + strings.Join(row, " ")
		if _, _, place := Read(text); place.Column <= len(text) {
			return // no file begins so
		}
		if file, why, _ := Read(text + ";"); why == api.OK {
			count++
			if got := told(file.Kids[0].Kids[0], false); got != split(row) {
				t.Fatalf("%v: %s, not %s", row, got, split(row))
			}
		}
		for i := 0; i < 7 && n > 0; i++ {
			grow(append(slices.Clip(row), []string{"a", "==", "in", "+", "(", ")", "not"}[i]), n-1)
		}
	}
	grow(nil, 8)
	if count < 1000 {
		t.Error(count, "exprs only")
	}
}

// P10.1: a file's tokens, with any gaps between them, are read as the node that they were made with, all its places included.
func TestGrown(t *testing.T) {
	r := rand.New(rand.NewSource(10))
	for i := range 1000 {
		tokens, n := someFile(r, i%8)
		text, places := laid(tokens, someGaps(r))
		if len(text) > api.MaxText {
			continue
		}
		want := settled(n, places)
		got, why, place := Read(text)
		if why != api.OK || place != (api.Place{}) || told(got, true) != told(want, true) || !reflect.DeepEqual(got, want) {
			t.Fatalf("%q: %s, %v at %v, not %s", text, told(got, true), why, place, told(want, true))
		}
	}
}

// P10.1: the tokens of files of which some are changed are wrong where the grammar says so.
func TestChanged(t *testing.T) {
	r := rand.New(rand.NewSource(11))
	others := strings.Fields("a text \"k\" 1 = == != + ; ( ) [ ] { } , : for in if else rule not files")
	for i := range 2500 {
		tokens, _ := someFile(r, 1+i%3)
		for len(tokens) > 120 {
			tokens, _ = someFile(r, 1)
		}
		for range 1 + r.Intn(2) {
			at := r.Intn(len(tokens) + 1)
			switch end := min(at+1, len(tokens)); r.Intn(4) {
			case 0:
				tokens = slices.Delete(tokens, at, end)
			case 1:
				tokens = slices.Insert(tokens, at, pick(r, others...))
			case 2:
				tokens = append(tokens[:at], append([]string{pick(r, others...)}, tokens[end:]...)...)
			case 3:
				tokens = tokens[:at]
			}
		}
		text, places := laid(tokens, someGaps(r))
		checkVerdict(t, tokens, text, places)
	}
}

// P10.1, P10.4: files with about 60 things inside each other, right or wrong.
func TestDeepFiles(t *testing.T) {
	r := rand.New(rand.NewSource(12))
	seen := map[api.Errno]int{}
	for range 150 {
		tokens := deepFile(r, 56+r.Intn(9))
		if r.Intn(3) == 0 {
			at := r.Intn(len(tokens))
			tokens = slices.Insert(tokens, at, pick(r, "[", "(", "not", "{", "a", "}", ")", "]", ";", "in"))
		}
		text, places := laid(tokens, someGaps(r))
		n, ok := checkVerdict(t, tokens, text, places)
		if ok {
			checkPrinted(t, n)
		}
		why, _ := verdict(tokens)
		seen[why]++
	}
	if seen[api.OK] < 20 || seen[api.ErrForm] < 20 || seen[api.ErrLimit] < 20 {
		t.Error(seen)
	}
}

// shared finds whether two lists of kids share memory, up to what they could grow to.
func shared(n api.Node, seen map[*api.Node]bool) bool {
	whole := n.Kids[:cap(n.Kids)]
	for i := range whole {
		if seen[&whole[i]] {
			return true
		}
		seen[&whole[i]] = true
	}
	return slices.ContainsFunc(n.Kids, func(k api.Node) bool { return shared(k, seen) })
}

// R3, R5: the same text is read as the same node, whatever was written into that of an earlier call; no two lists of kids share memory.
func TestApart(t *testing.T) {
	text := "rule r(a: text, b: int = 1) { x = a + b + [1, {\"k\": f(1, a = 2)}]; if not x == 1 { f(); } else { } }"
	first, _, _ := Read(text)
	want := told(first, true)
	if shared(first, map[*api.Node]bool{}) {
		t.Error("shared memory")
	}
	var spoil func(n api.Node)
	spoil = func(n api.Node) {
		for i := range n.Kids {
			spoil(n.Kids[i])
			n.Kids[i] = api.Node{Kind: Op, Text: "?"}
		}
		_ = append(n.Kids, api.Node{Kind: File})
	}
	spoil(first)
	if second, why, _ := Read(text); why != api.OK || told(second, true) != want {
		t.Errorf("%s, not %s", told(second, true), want)
	}
}

// The chapter's examples.
func TestExamples(t *testing.T) {
	n, why, _ := Read("x=[1,2]+y;")
	if s, e := Print(n); why != api.OK || e != api.OK || s != "x = [1, 2] + y;\n" {
		t.Errorf("%q, %v", s, e)
	}
	if _, why, place := Read("x = ;"); why != api.ErrForm || place != (api.Place{Line: 1, Column: 5}) {
		t.Error(why, place)
	}
	if kinds := [...]int{File, Assign, Do, For, If, Rule, Param, Block, Name, Number, Text, List, Dict, Call, Arg, Op}; kinds != [...]int{1, 2, 3, 4, 5, 6, 7, 8, 9, 10, 11, 12, 13, 14, 15, 16} {
		t.Error("the kinds are others")
	}
}

// R1: Read and Print answer for any bytes, Read as the model says, and what is read is printed so that it is read as the same.
func FuzzRead(f *testing.F) {
	for _, s := range []string{"", "x=[1,2]+y;", "if a {f(a=1);} else {}", "rule r(a:int=not b){for x in {\"k\":(1)} {}}", "x = (a in b) == not (c + d);", "x = ;?"} {
		f.Add(s)
	}
	f.Fuzz(func(t *testing.T, s string) {
		if len(s) > 300 {
			return
		}
		list, why, place := lex.All(s)
		n, got, at := Read(s)
		if why != api.OK {
			if got != why || at != place {
				t.Fatalf("%q: %v at %v, not %v at %v", s, got, at, why, place)
			}
			return
		}
		var tokens []string
		var places []api.Place
		for _, token := range list {
			source := token.Text
			if token.Kind == lex.Text {
				source = lex.Quote(source)
			}
			tokens, places = append(tokens, source), append(places, token.Place)
		}
		places = append(places, api.Place{Line: 1 + strings.Count(s, "\n"), Column: len(s) - strings.LastIndex(s, "\n")})
		if _, ok := checkVerdict(t, tokens, s, places); ok {
			checkPrinted(t, n)
		}
	})
}
