package forge

import (
	"slices"

	"cartouche/api"
	"cartouche/plan"
)

// What a forge holds is read by many at a time: so what comes in and what is told stands in memory of its own.

func copyOfTable(t api.Table) api.Table {
	out := api.Table{Types: slices.Clone(t.Types)}
	for i, x := range out.Types {
		x.Fields = slices.Clone(x.Fields)
		x.Oneofs = slices.Clone(x.Oneofs)
		x.Symbols = slices.Clone(x.Symbols)
		x.Reserved = slices.Clone(x.Reserved)
		out.Types[i] = x
	}
	return out
}

func copyOfBlock(b plan.Block) plan.Block {
	return plan.Block{Dec: slices.Clone(b.Dec), Enc: slices.Clone(b.Enc), Rows: slices.Clone(b.Rows)}
}

func copyOfProgram(p plan.Program) plan.Program {
	out := plan.Program{Blocks: slices.Clone(p.Blocks)}
	for i, b := range out.Blocks {
		out.Blocks[i] = copyOfBlock(b)
	}
	return out
}
