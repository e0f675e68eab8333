package code

import "cartouche/plan"

// operation is a row of chapter 13's table: its number, its name in texts, and how many of a step's numbers it names, from A on.
type operation struct {
	number int
	name   string
	count  int
}

// operations are all that there are.
type operations [plan.PutVal]operation

func allOperations() operations {
	return operations{
		{plan.Tag, "tag", 0},
		{plan.Case, "case", 2},
		{plan.Jump, "jump", 1},
		{plan.Go, "go", 1},
		{plan.Read, "read", 1},
		{plan.Sym, "sym", 1},
		{plan.Set, "set", 1},
		{plan.Add, "add", 1},
		{plan.Clear, "clear", 1},
		{plan.Msg, "msg", 3},
		{plan.Row, "row", 3},
		{plan.Pair, "pair", 4},
		{plan.Keep, "keep", 0},
		{plan.ReadSet, "readset", 2},
		{plan.ReadAdd, "readadd", 2},
		{plan.Has, "has", 3},
		{plan.Put, "put", 1},
		{plan.Val, "val", 1},
		{plan.Sub, "sub", 1},
		{plan.Each, "each", 3},
		{plan.Run, "run", 2},
		{plan.Pairs, "pairs", 4},
		{plan.Rest, "rest", 0},
		{plan.End, "end", 0},
		{plan.PutVal, "putval", 2},
	}
}

// numbered tells the operation that has a number.
func (l *operations) numbered(number int) (operation, bool) {
	for _, o := range l {
		if o.number == number {
			return o, true
		}
	}
	return operation{}, false
}

// named tells the operation that has a name.
func (l *operations) named(name string) (operation, bool) {
	for _, o := range l {
		if o.name == name {
			return o, true
		}
	}
	return operation{}, false
}

// numbers tells those of a step's numbers that its operation names.
func (o operation) numbers(s plan.Ins) []int {
	all := [...]int{s.A, s.B, s.C, s.D}
	return all[:o.count]
}

// step tells the step of which these are the numbers that its operation names.
func (o operation) step(numbers []int) plan.Ins {
	var all [4]int
	copy(all[:], numbers)
	return plan.Ins{Op: o.number, A: all[0], B: all[1], C: all[2], D: all[3]}
}
