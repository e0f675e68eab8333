package driver

import (
	"slices"
	"strconv"

	"cartouche/api"
	"cartouche/forge"
)

// command does what a line says, and tells what is told of that. It changes the player last of all, so that a command that is refused changes nothing.
type command func(*player, *arguments) string

// commands tells the command of each name.
func commands() map[string]command {
	return map[string]command{
		"file":    (*player).file,
		"compile": (*player).compile,
		"keep":    (*player).keep,
		"types":   (*player).types,
		"decode":  (*player).decode,
		"interp":  (*player).interp,
		"encode":  (*player).encode,
		"merge":   (*player).merge,
		"mask":    (*player).mask,
		"settle":  (*player).settle,
		"steps":   (*player).steps,
		"program": (*player).program,
		"pack":    (*player).pack,
		"unpack":  (*player).unpack,
		"diff":    (*player).diff,
		"through": (*player).through,
	}
}

// player is what the lines of a script leave to those behind them. Tables stand in forges, so that one is compiled once, however many lines ask; where there is none yet, stands nil.
type player struct {
	commands map[string]command
	sources  []api.Source
	now, old *forge.Forge
}

// play tells what is told of a line, of which these are the words: at least one.
func (p *player) play(words []string) string {
	return lineOf(func() string {
		do, isOne := p.commands[words[0]]
		if !isOne {
			refuse(api.ErrSyntax)
		}
		return do(p, &arguments{words[1:]})
	})
}

// put lays a source in place of the one of its name, or behind all.
func (p *player) put(s api.Source) {
	at := slices.IndexFunc(p.sources, func(o api.Source) bool { return o.Name == s.Name })
	switch {
	case at >= 0:
		p.sources[at] = s
	case len(p.sources) == api.MaxFiles:
		refuse(api.ErrLimit)
	default:
		p.sources = append(p.sources, s)
	}
}

// take makes a table the one from now on, and tells its types' number.
func (p *player) take(f *forge.Forge) string {
	p.now = f
	return "types " + strconv.Itoa(len(f.Table().Types))
}

// table tells the one that there is now.
func (p *player) table() *forge.Forge { return there(p.now) }

// oldTable tells the one that was kept.
func (p *player) oldTable() *forge.Forge { return there(p.old) }

func there(f *forge.Forge) *forge.Forge {
	if f == nil {
		refuse(api.ErrNone)
	}
	return f
}
