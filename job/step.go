package job

import "pivot/api"

// isStep tells whether s may stand in a job where as many steps as ahead come
// before it and as many as behind come after it: Skip and Back must not leave
// the job.
func isStep(s api.Step, ahead, behind int) bool {
	switch s.Op {
	case api.Const:
		return isRegister(s.A) && isWithin(s.B, 0, api.MaxNumber) && s.C == 0
	case api.Get:
		return isRegister(s.A) && isKey(s.B) && s.C == 0
	case api.Put:
		return isKey(s.A) && isRegister(s.B) && s.C == 0
	case api.Del:
		return isKey(s.A) && s.B == 0 && s.C == 0
	case api.Sum, api.Count:
		return isRegister(s.A) && isKey(s.B) && isKey(s.C) && s.B <= s.C
	case api.Add, api.Sub:
		return isRegister(s.A) && isRegister(s.B) && s.C == 0
	case api.Skip:
		return isRegister(s.A) && isWithin(s.B, 1, behind) && s.C == 0
	case api.Back:
		return isRegister(s.A) && isWithin(s.B, 1, ahead) && s.C == 0
	case api.Emit:
		return isRegister(s.A) && s.B == 0 && s.C == 0
	case api.Undo:
		return s.A == 0 && s.B == 0 && s.C == 0
	}
	return false
}

func isRegister(n int) bool {
	return isWithin(n, 0, api.Regs-1)
}

func isKey(n int) bool {
	return isWithin(n, 0, api.Keys-1)
}

func isWithin(n, least, greatest int) bool {
	return n >= least && n <= greatest
}
