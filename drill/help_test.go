package drill_test

import (
	"errors"
	"fmt"
	"math/rand/v2"
	"slices"
	"strings"
	"testing"

	"jotter/api"
	"jotter/drill"
)

// dice gives numbers that look mixed, the same at every run.
func dice(seed int) *rand.Rand { return rand.New(rand.NewPCG(uint64(seed), 29)) }

func pick[T any](r *rand.Rand, list ...T) T { return list[r.IntN(len(list))] }

// lines gives a text of lines, the head "clients 1" ahead of them: so the first has the number 1.
func lines(list ...string) string { return "clients 1\n" + strings.Join(list, "\n") }

// say is a step of that line that is said, want one that wants.
func say(line int, text string) api.Drilled  { return api.Drilled{Line: line, Text: text} }
func want(line int, text string) api.Drilled { return api.Drilled{Line: line, Text: text, Want: true} }

// unrolled wants a drill of one client to have those steps.
func unrolled(t *testing.T, promise, text string, steps ...api.Drilled) {
	t.Helper()
	got, clients, err := drill.Unroll(text)
	if err != nil || clients != 1 || !slices.Equal(got, steps) {
		t.Errorf("%s: Unroll(%.200q) = %s, %d, %v, want %s and 1 client", promise, text, brief(got), clients, err, brief(steps))
	}
}

// refused wants all calls to refuse a text, with nothing beside the error.
func refused(t *testing.T, promise, text string, at int, e api.Errno) {
	t.Helper()
	steps, clients, err := drill.Unroll(text)
	if len(steps) != 0 || clients != 0 || !isFault(err, at, e) {
		t.Errorf("%s: Unroll(%.200q): %d steps, %d clients, %v, want Fault{%d, %v}", promise, text, len(steps), clients, err, at, e)
	}
	d, err := drill.Run(text)
	if d.Said != 0 || d.Held != 0 || len(d.Failed) != 0 || !isFault(err, at, e) {
		t.Errorf("%s, P29.3: Run(%.200q): %s, %v, want Fault{%d, %v}", promise, text, brief(d), err, at, e)
	}
	flat, err := drill.Flat(text)
	if flat != "" || !isFault(err, at, e) {
		t.Errorf("%s, P29.4: Flat(%.200q): %.200q, %v, want Fault{%d, %v}", promise, text, flat, err, at, e)
	}
}

func isFault(err error, at int, e api.Errno) bool {
	var f *api.Fault
	return errors.As(err, &f) && f.At == at && errors.Is(err, e) && api.Code(err) == e && api.Place(err) == at
}

// played wants a drill to come to that.
func played(t *testing.T, promise, text string, said, held int, failed ...int) {
	t.Helper()
	d, err := drill.Run(text)
	if err != nil || d.Said != said || d.Held != held || !slices.Equal(d.Failed, failed) {
		t.Errorf("%s: Run(%.200q) = %s, %v, want %d said, %d held, %s failed", promise, text, brief(d), err, said, held, brief(failed))
	}
}

// brief tells a value in few words.
func brief(value any) string {
	told := fmt.Sprintf("%+v", value)
	return told[:min(len(told), 300)]
}

// texts gives what steps say or want, without their lines.
func texts(steps []api.Drilled) []api.Drilled {
	var all []api.Drilled
	for _, s := range steps {
		all = append(all, api.Drilled{Text: s.Text, Want: s.Want})
	}
	return all
}

// repeated gives a text so many times.
func repeated(times int, text string) string { return strings.Repeat(text, times) }
