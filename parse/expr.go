package parse

import (
	"parlance/api"
	"parlance/lex"
)

// expr reads an expression.
func (p *parser) expr(depth int) int {
	p.deep(depth)
	from := p.here().From
	switch {
	case p.take("fun"):
		params := append([]int{p.binder()}, p.binders()...)
		p.expect("->")
		whole := p.functions(params, p.expr(depth+1))
		p.nodes[whole].From = from
		return whole
	case p.take("let"):
		rec, kids := p.binding(depth + 1)
		p.expect("in")
		return p.led(api.NLetIn, from, rec, append(kids, p.expr(depth+1))...)
	case p.take("if"):
		first := p.expr(depth + 1)
		p.expect("then")
		second := p.expr(depth + 1)
		p.expect("else")
		return p.led(api.NIf, from, 0, first, second, p.expr(depth+1))
	case p.take("match"):
		return p.match(from, depth)
	}
	return p.comparison(depth)
}

// match reads a match behind its word.
func (p *parser) match(from, depth int) int {
	kids := []int{p.expr(depth + 1)}
	p.expect("with")
	p.take("|")
arms:
	for {
		pattern := p.pattern(depth + 1)
		p.expect("->")
		kids = append(kids, p.join(api.NArm, "", pattern, p.expr(depth+1)))
		switch {
		case p.take("|"):
			continue arms
		default:
			break arms
		}
	}
	return p.led(api.NMatch, from, 0, kids...)
}

// comparison reads operators and their operands.
func (p *parser) comparison(depth int) int {
	atom := func() int { return p.atom(depth) }
	application := func() int { return p.application(atom) }
	product := func() int { return p.row(application, "*") }
	sum := func() int { return p.row(product, "+", "-") }
	left := sum()
	if op := p.operator("=", "<"); op != "" {
		return p.join(api.NOp, op, left, sum())
	}
	return left
}

// row reads operands with operators between, which take from the left.
func (p *parser) row(operand func() int, ops ...string) int {
	left := operand()
	for {
		op := p.operator(ops...)
		if op == "" {
			return left
		}
		left = p.join(api.NOp, op, left, operand())
	}
}

// operator takes one of these words; "": none of them stands here.
func (p *parser) operator(ops ...string) string {
	for _, op := range ops {
		if p.take(op) {
			return op
		}
	}
	return ""
}

// application reads a function and its arguments.
func (p *parser) application(atom func() int) int {
	left := atom()
	for p.begins(api.TName, api.TCtor, api.TInt) || p.is("true") || p.is("false") || p.is("(") {
		left = p.join(api.NApply, "", left, atom())
	}
	return left
}

// begins: is the next token of one of these kinds?
func (p *parser) begins(kinds ...int) bool {
	for _, kind := range kinds {
		if p.here().Kind == kind {
			return true
		}
	}
	return false
}

// atom reads an expression that needs no brackets.
func (p *parser) atom(depth int) int {
	switch p.here().Kind {
	case api.TName:
		name := p.word(api.TName)
		return p.leaf(api.NVar, 0, name)
	case api.TCtor:
		name := p.word(api.TCtor)
		return p.leaf(api.NCtor, 0, name)
	}
	expr := func() int { return p.expr(depth + 1) }
	return p.constant([4]int{api.NInt, api.NBool, api.NUnit, api.NTuple}, expr)
}

// pattern reads a pattern.
func (p *parser) pattern(depth int) int {
	p.deep(depth)
	if p.here().Kind != api.TCtor {
		return p.patternAtom(depth)
	}
	from := p.here().From
	name := p.word(api.TCtor)
	if !p.begins(api.TCtor, api.TName, api.TInt) && !p.is("_") && !p.is("true") && !p.is("false") && !p.is("(") {
		return p.leaf(api.NPCase, 0, name)
	}
	part := p.patternAtom(depth)
	return p.add(api.Node{Kind: api.NPCase, From: from, To: p.nodes[part].To, Name: name, Kids: []int{part}})
}

// patternAtom reads a pattern that needs no brackets.
func (p *parser) patternAtom(depth int) int {
	switch t := p.here(); {
	case t.Kind == api.TCtor:
		name := p.word(api.TCtor)
		return p.leaf(api.NPCase, 0, name)
	case t.Kind == api.TName:
		return p.binder()
	case p.take("_"):
		return p.leaf(api.NAny, 0, "")
	}
	pattern := func() int { return p.pattern(depth + 1) }
	return p.constant([4]int{api.NPInt, api.NPBool, api.NPUnit, api.NPTuple}, pattern)
}

// constant reads a number, a truth, or what brackets are around; kinds: of the nodes of a number, a truth, "()" and a tuple.
func (p *parser) constant(kinds [4]int, part func() int) int {
	from := p.here().From
	switch {
	case p.here().Kind == api.TInt:
		n := p.number()
		p.at++
		return p.leaf(kinds[0], n, "")
	case p.take("true"):
		return p.leaf(kinds[1], 1, "")
	case p.take("false"):
		return p.leaf(kinds[1], 0, "")
	}
	p.expect("(")
	if p.take(")") {
		return p.add(api.Node{Kind: kinds[2], From: from, To: p.end()})
	}
	kids := p.parts(part)
	if len(kids) == 1 {
		return kids[0]
	}
	return p.add(api.Node{Kind: kinds[3], From: from, To: p.end(), Kids: kids})
}

// parts reads one part, or more with "," between, and the ")" behind them.
func (p *parser) parts(part func() int) []int {
	kids := []int{part()}
	for p.take(",") {
		kids = append(kids, part())
	}
	p.expect(")")
	return kids
}

// number: the next token's number, which must be below the limit.
func (p *parser) number() int {
	n := 0
	digits := lex.Word(p.text, p.here())
	for i := range len(digits) {
		n = n*10 + int(digits[i]-'0')
		if n >= api.MaxInt {
			p.fail(api.FaultSyntax)
		}
	}
	return n
}
