package parse

import "parlance/api"

// family reads a type declaration behind its word.
func (p *parser) family(from int) {
	var kids []int
	for p.here().Kind == api.TTick {
		kids = append(kids, p.tick())
	}
	n := api.Node{Kind: api.NType, From: from, Num: len(kids), Name: p.word(api.TName)}
	p.expect("=")
	p.take("|")
cases:
	for {
		kids = append(kids, p.oneCase())
		switch {
		case p.take("|"):
			continue cases
		default:
			break cases
		}
	}
	n.Kids, n.To = kids, p.nodes[kids[len(kids)-1]].To
	p.add(n)
}

// tick reads a type's variable.
func (p *parser) tick() int {
	name := p.word(api.TTick)
	return p.leaf(api.NTick, 0, name[1:])
}

// oneCase reads a case.
func (p *parser) oneCase() int {
	from := p.here().From
	name := p.word(api.TCtor)
	if !p.take("of") {
		return p.leaf(api.NCase, 0, name)
	}
	part := p.typ(0)
	return p.add(api.Node{Kind: api.NCase, From: from, To: p.nodes[part].To, Name: name, Kids: []int{part}})
}

// typ reads a type.
func (p *parser) typ(depth int) int {
	p.deep(depth)
	left := p.pair(depth)
	if p.take("->") {
		return p.join(api.NArrow, "", left, p.typ(depth+1))
	}
	return left
}

// pair reads types with "*" between.
func (p *parser) pair(depth int) int {
	kids := []int{p.named(depth)}
	for p.take("*") {
		kids = append(kids, p.named(depth))
	}
	if len(kids) == 1 {
		return kids[0]
	}
	return p.join(api.NPair, "", kids...)
}

// named reads a type and the names behind it, of each of which what is ahead is the argument.
func (p *parser) named(depth int) int {
	left := p.typeAtom(depth)
	for p.here().Kind == api.TName {
		n := api.Node{Kind: api.NName, From: p.nodes[left].From, Name: p.word(api.TName), Kids: []int{left}}
		n.To = p.end()
		left = p.add(n)
	}
	return left
}

// typeAtom reads a variable, a name, or what brackets are around; behind several types a name must stand.
func (p *parser) typeAtom(depth int) int {
	from := p.here().From
	switch p.here().Kind {
	case api.TTick:
		return p.tick()
	case api.TName:
		name := p.word(api.TName)
		return p.leaf(api.NName, 0, name)
	}
	p.expect("(")
	kids := p.parts(func() int { return p.typ(depth + 1) })
	if len(kids) == 1 {
		return kids[0]
	}
	n := api.Node{Kind: api.NName, From: from, Name: p.word(api.TName), Kids: kids}
	n.To = p.end()
	return p.add(n)
}
