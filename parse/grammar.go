package parse

import (
	"augur/api"
	"augur/lex"
)

// source reads the items up to the end of the text.
func (p *parser) source() []api.Item {
	var items []api.Item
	for p.more() {
		if len(items) == api.MaxItems {
			panic(refusal{api.ErrLarge})
		}
		items = append(items, p.item())
		p.expect(".")
	}
	return items
}

func (p *parser) item() api.Item {
	switch {
	case p.accept("type"):
		return p.typeItem()
	case p.accept("pred"):
		return api.Item{Kind: api.ItemPred, Name: p.name(), Types: arguments(p, p.typeExpr)}
	case p.accept("mode"):
		return p.modeItem()
	}
	return p.clause()
}

func (p *parser) typeItem() api.Item {
	item := api.Item{Kind: api.ItemType, Name: p.name(), Vars: arguments(p, p.variable)}
	p.expect("=")
	item.Ctors = row(p, "|", noLimit, p.ctor)
	return item
}

func (p *parser) modeItem() api.Item {
	item := api.Item{Kind: api.ItemMode, Name: p.name(), In: arguments(p, p.way)}
	p.expect("is")
	item.Det = p.det()
	return item
}

func (p *parser) clause() api.Item {
	item := api.Item{Kind: api.ItemClause, Name: p.name(), Args: arguments(p, p.term)}
	item.Body.Kind = api.GTrue
	if p.accept(":-") {
		item.Body = p.goal()
	}
	return item
}

func (p *parser) ctor() api.CtorDecl {
	return api.CtorDecl{Name: p.name(), Args: arguments(p, p.typeExpr)}
}

// way tells whether it is "in".
func (p *parser) way() bool {
	switch p.next().Text {
	case "in":
		return true
	case "out":
		return false
	}
	panic(refusal{api.ErrSyntax})
}

func (p *parser) det() int {
	switch p.next().Text {
	case "det":
		return api.Det
	case "semidet":
		return api.Semidet
	case "multi":
		return api.Multi
	case "nondet":
		return api.Nondet
	}
	panic(refusal{api.ErrSyntax})
}

func (p *parser) typeExpr() api.TypeExpr {
	p.enter()
	defer p.leave()
	if p.peek().Kind == api.TokVar {
		return api.TypeExpr{Var: true, Name: p.next().Text}
	}
	if p.accept("int") {
		return api.TypeExpr{Name: "int"}
	}
	return api.TypeExpr{Name: p.name(), Args: arguments(p, p.typeExpr)}
}

func (p *parser) goal() api.Goal {
	return joined(api.GOr, row(p, ";", noLimit, p.conj))
}

func (p *parser) conj() api.Goal {
	return joined(api.GAnd, row(p, ",", noLimit, p.prim))
}

// joined is the GAnd or GOr of goals; a single one is that goal itself.
func joined(kind int, goals []api.Goal) api.Goal {
	if len(goals) == 1 {
		return goals[0]
	}
	return api.Goal{Kind: kind, Goals: goals}
}

func (p *parser) prim() api.Goal {
	p.enter()
	defer p.leave()
	switch {
	case p.accept("true"):
		return api.Goal{Kind: api.GTrue}
	case p.accept("fail"):
		return api.Goal{Kind: api.GFail}
	case p.accept("not"):
		return api.Goal{Kind: api.GNot, Goals: []api.Goal{p.prim()}}
	case p.accept("throw"):
		return api.Goal{Kind: api.GThrow, A: p.term()}
	case p.accept("try"):
		return p.guarded()
	case p.accept("("):
		goal := p.goal()
		p.expect(")")
		return goal
	}
	return p.unifyOrCall()
}

// guarded reads what follows "try".
func (p *parser) guarded() api.Goal {
	first := p.prim()
	p.expect("catch")
	name := p.variable()
	p.expect("then")
	return api.Goal{Kind: api.GTry, Name: name, Goals: []api.Goal{first, p.prim()}}
}

// unifyOrCall reads a call as a term, too, since only what follows it tells the two apart.
func (p *parser) unifyOrCall() api.Goal {
	first := p.term()
	if p.accept("=") {
		return api.Goal{Kind: api.GUnify, A: first, B: p.term()}
	}
	if first.Kind != api.TCtor {
		panic(refusal{api.ErrSyntax})
	}
	return api.Goal{Kind: api.GCall, Name: first.Name, Args: first.Args}
}

func (p *parser) term() api.Term {
	p.enter()
	defer p.leave()
	switch p.peek().Kind {
	case api.TokVar:
		return api.Term{Kind: api.TVar, Name: p.next().Text}
	case api.TokInt:
		return api.Term{Kind: api.TInt, Int: p.next().Int}
	}
	return api.Term{Kind: api.TCtor, Name: p.name(), Args: arguments(p, p.term)}
}

// name takes a name that is no word of the language.
func (p *parser) name() string {
	tok := p.next()
	if tok.Kind != api.TokName || lex.Reserved(tok.Text) {
		panic(refusal{api.ErrSyntax})
	}
	return tok.Text
}

func (p *parser) variable() string {
	tok := p.next()
	if tok.Kind != api.TokVar {
		panic(refusal{api.ErrSyntax})
	}
	return tok.Text
}
