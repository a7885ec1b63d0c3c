package parse

import (
	"slices"
	"strings"

	"bloomery/api"
	"bloomery/lex"
)

// The bytes of words.
const (
	digits  = "0123456789"
	letters = "abcdefghijklmnopqrstuvwxyzABCDEFGHIJKLMNOPQRSTUVWXYZ_"
)

// The constructs of an expr, each of which may be any of those below it.
const (
	anExpr = iota
	aSum
	aPrim
)

// Print is a file's text.
func Print(n api.Node) (text string, why api.Errno) {
	defer func() {
		if f, ok := recover().(fault); ok {
			text, why = "", f.why
		}
	}()
	w := &writer{}
	w.file(n)
	if w.over {
		return "", api.ErrLimit
	}
	return string(w.out), api.OK
}

// Same tells whether two nodes are the same, but for places.
func Same(a, b api.Node) bool {
	return a.Kind == b.Kind && a.Text == b.Text && slices.EqualFunc(a.Kids, b.Kids, Same)
}

// writer is a printed form that grows.
type writer struct {
	out  []byte
	deep int  // how many of the tokens that have a depth are not closed
	over bool // whether it is too deep or too long; it is written no further, but that nodes are wrong goes ahead of that
}

// must aborts unless a node is as it should be.
func must(ok bool) {
	if !ok {
		panic(fault{why: api.ErrForm})
	}
}

// plain aborts unless a node has no text of its own.
func plain(n api.Node) {
	must(n.Text == "")
}

// kidsOf are the kids of a node that must have some number of them.
func kidsOf(n api.Node, least, most int) []api.Node {
	must(least <= len(n.Kids) && len(n.Kids) <= most)
	return n.Kids
}

// put writes a part of the form.
func (w *writer) put(s string) {
	if len(w.out)+len(s) > api.MaxText {
		w.over = true
	}
	if !w.over {
		w.out = append(w.out, s...)
	}
}

// open writes a token that has a depth.
func (w *writer) open(s string) {
	w.deep++
	if w.deep > api.MaxDeep {
		w.over = true
	}
	w.put(s)
}

// shut writes the token that closes the one opened last; it is empty if there is none.
func (w *writer) shut(s string) {
	w.deep--
	w.put(s)
}

// indent begins a line. Nothing but blocks is open there.
func (w *writer) indent() {
	if !w.over {
		w.put(strings.Repeat("\t", w.deep))
	}
}

// name writes a NAME.
func (w *writer) name(s string) {
	must(isName(s))
	w.put(s)
}

// isName tells whether a string is a NAME.
func isName(s string) bool {
	return s != "" && strings.IndexByte(digits, s[0]) < 0 && strings.Trim(s, letters+digits) == "" && !isReserved(s)
}

// isNumber tells whether a string is a NUMBER.
func isNumber(s string) bool {
	tokens, _, _ := lex.All(s)
	return len(tokens) == 1 && tokens[0].Kind == lex.Number && tokens[0].Text == s
}

// file writes all of a File.
func (w *writer) file(n api.Node) {
	must(n.Kind == File)
	plain(n)
	w.stmts(n.Kids)
}

// stmts writes statements, each on lines of its own.
func (w *writer) stmts(l []api.Node) {
	for _, n := range l {
		w.indent()
		w.stmt(n)
		w.put("\n")
	}
}

// stmt writes a statement.
func (w *writer) stmt(n api.Node) {
	switch n.Kind {
	case Assign:
		w.name(n.Text)
		w.put(" = ")
		w.expr(kidsOf(n, 1, 1)[0])
		w.put(";")
	case Do:
		plain(n)
		w.call(kidsOf(n, 1, 1)[0])
		w.put(";")
	case For:
		w.put("for ")
		w.name(n.Text)
		w.put(" in ")
		w.head(kidsOf(n, 2, 2))
	case If:
		plain(n)
		w.put("if ")
		w.head(kidsOf(n, 2, 3))
		if len(n.Kids) == 3 {
			w.put(" else ")
			w.block(n.Kids[2])
		}
	case Rule:
		w.rule(n)
	default:
		must(false)
	}
}

// head writes an expr and the block behind it.
func (w *writer) head(l []api.Node) {
	w.expr(l[0])
	w.put(" ")
	w.block(l[1])
}

// rule writes a Rule, whose parentheses have no depth.
func (w *writer) rule(n api.Node) {
	must(len(n.Kids) > 0)
	last := len(n.Kids) - 1
	w.put("rule ")
	w.name(n.Text)
	w.put("(")
	w.row(n.Kids[:last], w.param)
	w.put(") ")
	w.block(n.Kids[last])
}

// block writes a Block.
func (w *writer) block(n api.Node) {
	must(n.Kind == Block)
	plain(n)
	w.open("{")
	w.put("\n")
	w.stmts(n.Kids)
	// Its last line has as many tabs as its first one, so it is closed ahead of them.
	w.shut("")
	w.indent()
	w.put("}")
}

// row writes nodes with commas between them.
func (w *writer) row(l []api.Node, one func(api.Node)) {
	for i, n := range l {
		w.comma(i)
		one(n)
	}
}

// comma writes what is ahead of all but the first one.
func (w *writer) comma(i int) {
	if i > 0 {
		w.put(", ")
	}
}

// param writes a Param.
func (w *writer) param(n api.Node) {
	must(n.Kind == Param)
	l := kidsOf(n, 1, 2)
	must(l[0].Kind == Name && isType(l[0].Text))
	w.name(n.Text)
	w.put(": ")
	w.expr(l[0])
	if len(l) == 2 {
		w.put(" = ")
		w.expr(l[1])
	}
}

// call writes a Call.
func (w *writer) call(n api.Node) {
	must(n.Kind == Call)
	w.name(n.Text)
	w.open("(")
	w.row(n.Kids, w.arg)
	w.shut(")")
}

// arg writes an Arg.
func (w *writer) arg(n api.Node) {
	must(n.Kind == Arg)
	if n.Text != "" {
		w.name(n.Text)
		w.put(" = ")
	}
	w.expr(kidsOf(n, 1, 1)[0])
}

// expr writes an expr.
func (w *writer) expr(n api.Node) {
	switch n.Kind {
	case Name:
		kidsOf(n, 0, 0)
		w.name(n.Text)
	case Number:
		kidsOf(n, 0, 0)
		must(isNumber(n.Text))
		w.put(n.Text)
	case Text:
		w.text(n)
	case List:
		plain(n)
		w.open("[")
		w.row(n.Kids, w.expr)
		w.shut("]")
	case Dict:
		w.dict(n)
	case Call:
		w.call(n)
	case Op:
		w.op(n)
	default:
		must(false)
	}
}

// text writes a Text.
func (w *writer) text(n api.Node) {
	must(n.Kind == Text)
	kidsOf(n, 0, 0)
	quoted := lex.Quote(n.Text)
	must(quoted != "")
	w.put(quoted)
}

// dict writes a Dict.
func (w *writer) dict(n api.Node) {
	plain(n)
	must(len(n.Kids)%2 == 0)
	w.open("{")
	for i := 0; i < len(n.Kids); i += 2 {
		w.comma(i)
		w.text(n.Kids[i])
		w.put(": ")
		w.expr(n.Kids[i+1])
	}
	w.shut("}")
}

// op writes an Op.
func (w *writer) op(n api.Node) {
	switch n.Text {
	case "not":
		w.open("not ")
		w.operand(kidsOf(n, 1, 1)[0], aPrim)
		w.shut("")
	case "+":
		w.two(n, aSum, aPrim)
	case "==", "!=", "in":
		w.two(n, aSum, aSum)
	default:
		must(false)
	}
}

// two writes an Op of two operands, which must be constructs of the grammar.
func (w *writer) two(n api.Node, left, right int) {
	l := kidsOf(n, 2, 2)
	w.operand(l[0], left)
	w.put(" " + n.Text + " ")
	w.operand(l[1], right)
}

// operand writes an operand, in parentheses if it is not such a construct as the grammar asks for.
func (w *writer) operand(n api.Node, want int) {
	if construct(n) >= want {
		w.expr(n)
		return
	}
	w.open("(")
	w.expr(n)
	w.shut(")")
}

// construct is the one that a node is without parentheses.
func construct(n api.Node) int {
	switch {
	case n.Kind != Op || n.Text == "not":
		return aPrim
	case n.Text == "+":
		return aSum
	}
	return anExpr
}
