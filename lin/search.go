package lin

import "synod/api"

// spot is where a search stands: what is done (a bit each), and the key as that left it. What may follow hangs on nothing else, so a spot that failed once fails however it is reached.
type spot struct {
	done  uint
	there bool
	value string
}

// task is an operation of the key that counts, with what a search asks of it again and again.
type task struct {
	api.Op
	number int  // in the history
	bit    uint // of this one alone
	ahead  uint // of those that were answered ahead of its call
}

// explain is the first order of a key's operations, in a history that may be judged.
func explain(h []api.Op, key string) ([]int, bool) {
	tasks := tasksOf(h, key)
	must := answered(tasks)
	failed := map[spot]struct{}{}
	var order []int
	var reach func(at spot) bool
	reach = func(at spot) bool {
		if at.done&must == must {
			return true // a front stands ahead of what goes on
		}
		if _, ok := failed[at]; ok {
			return false
		}
		for _, x := range tasks {
			next, ok := x.follow(at)
			if !ok {
				continue
			}
			order = append(order, x.number)
			if reach(next) {
				return true
			}
			order = order[:len(order)-1]
		}
		failed[at] = struct{}{}
		return false
	}
	if !reach(spot{}) {
		return nil, false
	}
	return order, true
}

// tasksOf are the operations of a key that count, by rising numbers.
func tasksOf(h []api.Op, key string) []task {
	var tasks []task
	for i, x := range h {
		if x.Key == key && Counts(x) {
			tasks = append(tasks, task{Op: x, number: i, bit: 1 << len(tasks)})
		}
	}
	for i := range tasks {
		for _, y := range tasks {
			if !open(y.Op) && y.Back < tasks[i].Call {
				tasks[i].ahead |= y.bit
			}
		}
	}
	return tasks
}

// answered are those that have to be in every order.
func answered(tasks []task) uint {
	var must uint
	for _, x := range tasks {
		if !open(x.Op) {
			must |= x.bit
		}
	}
	return must
}

// follow is where the search stands behind x, if x may be the next one.
func (x task) follow(at spot) (spot, bool) {
	if at.done&x.bit != 0 || x.ahead&^at.done != 0 {
		return spot{}, false
	}
	there, value, reply := Step(at.there, at.value, x.Op)
	if !open(x.Op) && reply != x.Reply {
		return spot{}, false
	}
	return spot{done: at.done | x.bit, there: there, value: value}, true
}
