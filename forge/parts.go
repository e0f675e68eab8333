package forge

import (
	"sync"

	"cartouche/api"
	"cartouche/opt"
	"cartouche/plan"
)

// part is what a forge has of a type: its block, which is there when once is done, and is not written to from then on.
type part struct {
	once  sync.Once
	block plan.Block
}

// holding tells a forge with that table, none of its types compiled. The table is good, and nobody else's.
func holding(t api.Table) *Forge {
	return &Forge{table: t, parts: make([]part, len(t.Types))}
}

// lacks tells whether an index is none of the types'.
func (f *Forge) lacks(index int) bool { return index < 0 || index >= len(f.parts) }

// compile sees to it that a type is compiled, and tells whether it was not till now: of many that ask at a time one alone is told so.
func (f *Forge) compile(index int) (isNew bool) {
	own := &f.parts[index]
	own.once.Do(func() {
		lowered, _ := plan.LowerType(f.table, index) // nothing is refused: the table is good, and has the type
		own.block = opt.Block(lowered)
		f.compiled.Add(1)
		isNew = true
	})
	return isNew
}

// whole tells all blocks, compiled, in the forge's own memory: to be run, not to be handed out.
func (f *Forge) whole() plan.Program {
	p := plan.Program{Blocks: make([]plan.Block, len(f.parts))}
	for i := range f.parts {
		f.compile(i)
		p.Blocks[i] = f.parts[i].block
	}
	return p
}
