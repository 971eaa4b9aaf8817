package lin

import "synod/api"

// Step does an operation to a key.
func Step(there bool, value string, x api.Op) (bool, string, api.Reply) {
	if !there {
		return stepNone(x)
	}
	switch x.Kind {
	case api.OpGet:
		return true, value, api.Reply{Code: api.RDone, Value: value}
	case api.OpPut:
		return true, x.Value, api.Reply{Code: api.RDone}
	case api.OpDelete:
		return false, "", api.Reply{Code: api.RDone}
	case api.OpSwap:
		if value != x.Old {
			return true, value, api.Reply{Code: api.ROther, Value: value}
		}
		return true, x.Value, api.Reply{Code: api.RDone}
	}
	return true, value, api.Reply{}
}

// stepNone does an operation to a key that isn't there.
func stepNone(x api.Op) (bool, string, api.Reply) {
	switch x.Kind {
	case api.OpGet, api.OpDelete, api.OpSwap:
		return false, "", api.Reply{Code: api.RNone}
	case api.OpPut:
		return true, x.Value, api.Reply{Code: api.RDone}
	}
	return false, "", api.Reply{}
}
