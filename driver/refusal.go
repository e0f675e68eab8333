package driver

import (
	"errors"
	"strconv"

	"cartouche/api"
)

// refusal is the error with which a command gives up: the error's number, and of a bundle's fault the file, the line and the column.
type refusal struct{ numbers []int }

// Error tells the line that stands in place of what the command would tell.
func (r refusal) Error() string {
	line := "error"
	for _, n := range r.numbers {
		line += " " + strconv.Itoa(n)
	}
	return line
}

// refuse ends a command, from wherever within it.
func refuse(e api.Errno) { panic(refusal{[]int{int(e)}}) }

func refuseBundle(f api.Fault) { panic(refusal{[]int{int(f.Code), f.File, f.Line, f.Col}}) }

// heed refuses what a call has refused.
func heed(e api.Errno) {
	if e != api.OK {
		refuse(e)
	}
}

// must tells what a call answers, if it has not refused.
func must[T any](answer T, e api.Errno) T {
	heed(e)
	return answer
}

// lineOf tells what a command tells, or the refusal that ends it.
func lineOf(command func() string) (line string) {
	defer func() {
		if thrown, ok := recover().(error); ok {
			var r refusal
			if errors.As(thrown, &r) {
				line = r.Error()
			}
		}
	}()
	return command()
}
