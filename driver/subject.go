package driver

import (
	"cartouche/api"
	"cartouche/forge"
	"cartouche/table"
	"cartouche/text"
)

// subject is the message's type that a line names.
type subject struct {
	forge *forge.Forge
	table api.Table
	index int
	name  string
}

// subject tells the type of that name, which must be a message's.
func (p *player) subject(name string) subject {
	f := p.table()
	t := f.Table()
	index := must(table.Find(t, name))
	if t.Types[index].Enum {
		refuse(api.ErrNone)
	}
	return subject{f, t, index, name}
}

// subjectAndBytes takes a line's two words, where these are all.
func (p *player) subjectAndBytes(a *arguments) (subject, []byte) {
	name, b := a.word(), a.hex()
	a.end()
	return p.subject(name), b
}

// read tells what the machine reads.
func (x subject) read(b []byte) api.Msg { return must(x.forge.Decode(x.name, b)) }

// written tells what the machine writes, as hex.
func (x subject) written(m api.Msg) string { return hexOf(must(x.forge.Encode(x.name, m))) }

// printed tells a message as a text.
func (x subject) printed(m api.Msg) string { return must(text.Print(x.table, x.index, m)) }
