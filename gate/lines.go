package gate

import (
	"tideway/api"
	"tideway/checks"
)

// checkCommands returns the first error of commands, or OK.
func checkCommands(l []Command) api.Errno {
	events := map[int]string{}
	return checks.First(
		checks.Most(len(l), MaxCommands),
		checks.Each(l, func(x Command) api.Errno {
			event, came := events[x.Number]
			events[x.Number] = x.Event
			return checks.First(
				checks.Range(x.Number, 1, api.MaxNumber),
				checks.Range(x.Line, 0, 1),
				checkName(x.Event),
				checks.Unless(!came || event == x.Event, api.ErrConflict),
			)
		}),
	)
}

// eventsOf returns the events of commands without errors by their numbers.
func eventsOf(l []Command) map[int]string {
	out := map[int]string{}
	for _, x := range l {
		out[x.Number] = x.Event
	}
	return out
}

// Execute returns the events of commands that are executed, and the number that is awaited.
func Execute(l []Command) ([]string, int, api.Errno) {
	if e := checkCommands(l); e != api.OK {
		return nil, 0, e
	}
	events := eventsOf(l)
	var out []string
	for number := 1; ; number++ {
		event, came := events[number]
		if !came {
			return out, number, api.OK
		}
		out = append(out, event)
	}
}

// Lost returns the numbers of commands that did not come.
func Lost(l []Command, last int) ([]int, api.Errno) {
	if e := checks.First(checkCommands(l), checks.Range(last, 0, MaxCommands)); e != api.OK {
		return nil, e
	}
	events := eventsOf(l)
	var out []int
	for number := 1; number <= last; number++ {
		if _, came := events[number]; !came {
			out = append(out, number)
		}
	}
	return out, api.OK
}

// Vote returns the position of more than half of the sensors.
func Vote(l []int) (int, api.Errno) {
	check := func(position int) api.Errno { return checks.Range(position, 0, MaxPosition) }
	if e := checks.First(checks.Most(len(l), MaxSensors), checks.Each(l, check)); e != api.OK {
		return 0, e
	}
	votes := map[int]int{}
	for _, position := range l {
		votes[position]++
		if 2*votes[position] > len(l) {
			return position, api.OK
		}
	}
	return 0, api.ErrNone
}
