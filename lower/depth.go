package lower

import "platformfw/api"

// Effect returns how many values an instruction removes from the stack and how many it then pushes.
func Effect(in api.Instr) (int, int, bool) {
	switch in.Op {
	case api.InInt, api.InString, api.InBuffer, api.InLoadName, api.InLoadLocal, api.InLoadArg, api.InPushName,
		api.InRefName, api.InRefLocal, api.InRefArg, api.InTypeName, api.InExists, api.InAcquire:
		return 0, 1, true
	case api.InUnary, api.InDeref, api.InType, api.InWait:
		return 1, 1, true
	case api.InBinary, api.InIndex:
		return 2, 1, true
	case api.InMid:
		return 3, 1, true
	case api.InCall:
		if in.Int > api.MaxArgs {
			return 0, 0, false
		}
		return int(in.Int), 1, true
	case api.InPackage:
		return int(in.Int % 256), 1, true
	case api.InStoreName, api.InStoreLocal, api.InStoreArg, api.InJumpZero, api.InPop, api.InSleep, api.InNotify:
		return 1, 0, true
	case api.InStoreRef:
		return 2, 0, true
	case api.InJump, api.InRelease, api.InSignal, api.InReset:
		return 0, 0, true
	case api.InReturn:
		if in.Int > 1 {
			return 0, 0, false
		}
		return int(in.Int), 0, true
	}
	return 0, 0, false
}

// next returns the indices at which execution can continue after an instruction.
func next(in api.Instr, at int) []uint64 {
	after := uint64(at + 1)
	switch in.Op {
	case api.InJump:
		return []uint64{in.Int}
	case api.InJumpZero:
		return []uint64{in.Int, after}
	case api.InReturn:
		return nil
	}
	return []uint64{after}
}

// Depth returns the largest number of values on the stack while a code is executed, or false if the code is not sound.
func Depth(l []api.Instr) (int, bool) {
	if len(l) == 0 {
		return 0, false
	}
	before := make([]int, len(l))
	for i := range before {
		before[i] = -1
	}
	before[0] = 0
	work := []int{0}
	largest := 0
	for len(work) > 0 {
		at := work[len(work)-1]
		work = work[:len(work)-1]
		removes, pushes, ok := Effect(l[at])
		if !ok || removes > before[at] {
			return 0, false
		}
		after := before[at] - removes + pushes
		largest = max(largest, before[at], after)
		for _, to := range next(l[at], at) {
			if to >= uint64(len(l)) {
				return 0, false
			}
			if before[to] < 0 {
				before[to] = after
				work = append(work, int(to))
			} else if before[to] != after {
				return 0, false
			}
		}
	}
	return largest, true
}
