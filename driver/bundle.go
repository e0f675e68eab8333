package driver

import (
	"strconv"
	"strings"

	"cartouche/api"
	"cartouche/code"
	"cartouche/evolve"
	"cartouche/forge"
	"cartouche/opt"
	"cartouche/self"
)

const (
	done    = "ok"
	baseTen = 10
)

func (p *player) file(a *arguments) string {
	name, text := a.quoted(), a.quoted()
	a.end()
	p.put(api.Source{Name: name, Text: text})
	return done
}

func (p *player) compile(a *arguments) string {
	a.end()
	f, fault := forge.New(p.sources)
	if fault.Code != api.OK {
		refuseBundle(fault)
	}
	return p.take(f)
}

func (p *player) keep(a *arguments) string {
	a.end()
	p.old = p.table()
	return done
}

func (p *player) types(a *arguments) string {
	a.end()
	var names []string
	for _, x := range p.table().Table().Types {
		names = append(names, x.Name)
	}
	return strings.Join(names, " ")
}

func (p *player) program(a *arguments) string {
	a.end()
	optimised := p.table().Program()
	return strconv.FormatUint(must(code.Sum(optimised)), baseTen) + " " + strconv.Itoa(opt.Count(optimised))
}

func (p *player) pack(a *arguments) string {
	a.end()
	return hexOf(must(self.Pack(p.table().Table())))
}

func (p *player) unpack(a *arguments) string {
	b := a.hex()
	a.end()
	return p.take(must(forge.Of(must(self.Unpack(b)))))
}

func (p *player) diff(a *arguments) string {
	a.end()
	changes, class, e := evolve.Diff(p.oldTable().Table(), p.table().Table())
	heed(e)
	return className(class) + " " + strconv.Itoa(len(changes))
}

func className(class int) string {
	switch class {
	case evolve.Same:
		return "same"
	case evolve.Additive:
		return "additive"
	case evolve.Widening:
		return "widening"
	}
	return "breaking"
}
