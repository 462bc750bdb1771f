package sample

import (
	"slices"

	"shuttlecock/api"
)

func SameProgram(a, b api.Program) bool {
	return slices.EqualFunc(a, b, func(x, y []api.Instr) bool { return slices.Equal(x, y) })
}

// SameState takes an empty list for the same as none, as all of these do.
func SameState(a, b api.State) bool {
	for i := range a.Waits {
		if !slices.Equal(a.Waits[i], b.Waits[i]) {
			return false
		}
	}
	return SameProgram(a.Prog, b.Prog) && slices.Equal(a.Gs, b.Gs) && slices.Equal(a.Ps, b.Ps) && slices.Equal(a.Ms, b.Ms) &&
		slices.Equal(a.Global, b.Global) && a.Count == b.Count && slices.Equal(a.Timers, b.Timers) && a.Clock == b.Clock && a.Procs == b.Procs
}

func SameTable(a, b api.Table) bool {
	return slices.Equal(a.Strings, b.Strings) && slices.EqualFunc(a.Stacks, b.Stacks, func(x, y [][2]int) bool { return slices.Equal(x, y) })
}

func SameSnap(a, b api.Snap) bool {
	return a.Time == b.Time && slices.Equal(a.Ps, b.Ps) && slices.Equal(a.Gs, b.Gs)
}

func SameLog(a, b api.Log) bool {
	return a.Time == b.Time && a.M == b.M && a.Kind == b.Kind && a.G == b.G && a.P == b.P && a.Seq == b.Seq && a.Why == b.Why && slices.Equal(a.Stack, b.Stack)
}

func SameLogs(a, b []api.Log) bool {
	return slices.EqualFunc(a, b, SameLog)
}
