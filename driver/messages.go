package driver

import (
	"strconv"
	"strings"

	"cartouche/interp"
	"cartouche/merge"
	"cartouche/model"
	"cartouche/pass"
	"cartouche/plan"
	"cartouche/text"
	"cartouche/vm"
)

func (p *player) decode(a *arguments) string {
	x, b := p.subjectAndBytes(a)
	return x.printed(x.read(b))
}

func (p *player) interp(a *arguments) string {
	x, b := p.subjectAndBytes(a)
	return x.printed(must(interp.Decode(x.table, x.index, b)))
}

func (p *player) encode(a *arguments) string {
	name, s := a.word(), a.quoted()
	a.end()
	x := p.subject(name)
	m, fault := text.Parse(x.table, x.index, s)
	heed(fault.Code)
	return x.written(m)
}

func (p *player) merge(a *arguments) string {
	name, first, second := a.word(), a.hex(), a.hex()
	a.end()
	x := p.subject(name)
	under, over := x.read(first), x.read(second)
	return x.written(must(merge.Merge(x.table, x.index, under, over)))
}

func (p *player) mask(a *arguments) string {
	name, b, paths := a.word(), a.hex(), a.word()
	a.end()
	x := p.subject(name)
	return x.printed(must(merge.Keep(x.table, x.index, x.read(b), strings.Split(paths, ","))))
}

func (p *player) settle(a *arguments) string {
	x, b := p.subjectAndBytes(a)
	return x.written(must(model.Settle(x.table, x.index, x.read(b))))
}

func (p *player) steps(a *arguments) string {
	x, b := p.subjectAndBytes(a)
	lowered := must(vm.Steps(must(plan.Lower(x.table)), x.index, b))
	optimised := must(vm.Steps(x.forge.Program(), x.index, b))
	return strconv.Itoa(lowered) + " " + strconv.Itoa(optimised)
}

func (p *player) through(a *arguments) string {
	x, b := p.subjectAndBytes(a)
	old := p.oldTable().Table()
	return x.written(must(pass.Through(x.table, old, x.name, x.read(b))))
}
