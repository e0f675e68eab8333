package samples

import (
	"cartouche/api"
	"cartouche/table"
)

// GoodTable tells the first good one of the tables that are made.
func GoodTable(make func() api.Table) api.Table {
	for {
		if t := make(); table.Good(t) {
			return t
		}
	}
}

// SomeTable tells a good table of any sort.
func (m *Maker) SomeTable() api.Table {
	return Pick(m, m.Rich, m.Table, m.Rich, Wide)()
}

// TwoTables tells good tables that have much in common, or little.
func (m *Maker) TwoTables() (old, new api.Table) {
	old = m.SomeTable()
	switch m.Below(8) {
	case 0:
		return old, m.SomeTable()
	case 1:
		return old, m.Grown(old, 2)
	case 2:
		return m.Grown(old, 2), old
	case 3:
		return old, m.Reordered(m.Grown(old, 1))
	}
	new = GoodTable(func() api.Table { return m.Evolved(old) })
	if m.Below(3) == 0 {
		new = m.Reordered(new)
	}
	return old, new
}

// AnyTable tells a table that may not be good.
func (m *Maker) AnyTable() api.Table {
	return Pick(m, m.BentTable, m.WildTable, m.Rich, func() api.Table { return m.Spoiled(m.Table()) }, func() api.Table { return m.Evolved(m.Rich()) })()
}

// AnyName tells a name of a table's types, one like it, or none.
func (m *Maker) AnyName(t api.Table) string {
	if len(t.Types) == 0 {
		return m.Word("M")
	}
	name := Pick(m, t.Types...).Name
	return Pick(m, name, m.Word(name))
}
