package match

import "reaper/api"

// alone is the place that stands for no push.
const alone = -1

// line is pushes that wait for a pop: a stack of their places, on top of the items that were there, of which only how many they are is known.
type line struct {
	most   int
	there  int
	places []int
}

// tells is whom a line tells what becomes of operations, by their places: code is where one's code is written, meet hears of a pop and the push that it meets, take of a pop that comes to the items that were there, stay of a push that nobody met.
type tells struct {
	code func(place int) *uint8
	meet func(pop, push int)
	take func(pop int)
	stay func(push int)
}

// through has operations wait and meet, one behind the other. Who stays is known only behind the last one, which is why the line is closed by a deferred function.
func through(there, most int, ops []api.Op, t tells) {
	l := line{most: most, there: there}
	defer l.close(t.stay)
	for i, o := range ops {
		*t.code(i) = l.do(i, o.Kind, t)
	}
}

// do is what becomes of an operation, and its code.
func (l *line) do(place int, kind uint8, t tells) uint8 {
	switch kind {
	case api.Push:
		return l.push(place)
	case api.Pop:
		return l.pop(place, t)
	}
	return api.Bad
}

// push has a push wait. It takes room while it does, as its item would.
func (l *line) push(place int) uint8 {
	if l.there+len(l.places) >= l.most {
		return api.Full
	}
	l.places = append(l.places, place)
	return api.Done
}

// pop meets the push that came last, and comes to the items that were there only if none waits.
func (l *line) pop(place int, t tells) uint8 {
	last := len(l.places) - 1
	switch {
	case last >= 0:
		t.meet(place, l.places[last])
		l.places = l.places[:last]
	case l.there > 0:
		t.take(place)
		l.there--
	default:
		return api.Empty
	}
	return api.Got
}

// close tells of all that wait still, the lowest first.
func (l *line) close(stay func(push int)) {
	for _, push := range l.places {
		stay(push)
	}
}
