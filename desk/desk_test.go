package desk_test

import (
	"reflect"
	"strings"
	"testing"

	"calliper/api"
	"calliper/desk"
)

// play plays lines, and wants their answers, both with commas between.
func play(t *testing.T, d *desk.Desk, lines, want string) {
	t.Helper()
	answers := strings.Split(want, ", ")
	for i, line := range strings.Split(lines, ", ") {
		if got := d.Line(line); i >= len(answers) || got != answers[i] {
			t.Errorf("line %d, %q: %q, not %q", i, line, got, answers[min(i, len(answers)-1)])
		}
	}
}

// begun is a desk behind `draw 7`, `on`, `go 1`.
func begun(t *testing.T) *desk.Desk {
	t.Helper()
	d := desk.New()
	play(t, d, "draw 7, on, go 1", "ok, ok, ok")
	return d
}

func TestP22_1Parse(t *testing.T) {
	for _, x := range []struct {
		s     string
		want  desk.Order
		place int
		e     api.Errno
	}{
		{"new", desk.Order{Verb: "new"}, 0, api.OK},
		{"read 1 2 3", desk.Order{Verb: "read", N: []int{1, 2, 3}}, 0, api.OK},
		{"read 255 999999999 0", desk.Order{Verb: "read", N: []int{255, 999999999, 0}}, 0, api.OK},
		{"read 256 1 1", desk.Order{}, 1, api.ErrWord},
		{"read 1 2", desk.Order{}, 3, api.ErrWord},
		{"read", desk.Order{}, 1, api.ErrWord},
		{"read x", desk.Order{}, 1, api.ErrWord},
		{"read 1 x", desk.Order{}, 2, api.ErrWord},
		{"read 1 2 3 4", desk.Order{}, 4, api.ErrWord},
		{"read 1 2 3 x y", desk.Order{}, 4, api.ErrWord},
		{"read 1 2 3 ", desk.Order{}, 4, api.ErrWord},
		{"read  1 2 3", desk.Order{}, 1, api.ErrWord},
		{"", desk.Order{}, 0, api.ErrWord},
		{" ", desk.Order{}, 0, api.ErrWord},
		{" new", desk.Order{}, 0, api.ErrWord},
		{"new ", desk.Order{}, 1, api.ErrWord},
		{"New", desk.Order{}, 0, api.ErrWord},
		{"new\n", desk.Order{}, 0, api.ErrWord},
		{"fly 1 x", desk.Order{}, 0, api.ErrWord},
		{"go 0", desk.Order{Verb: "go", N: []int{0}}, 0, api.OK},
		{"go 256", desk.Order{Verb: "go", N: []int{256}}, 0, api.OK},
		{"go 00", desk.Order{}, 1, api.ErrWord},
		{"go 01", desk.Order{}, 1, api.ErrWord},
		{"go 1000000000", desk.Order{}, 1, api.ErrWord},
		{"go -1", desk.Order{}, 1, api.ErrWord},
		{"go +1", desk.Order{}, 1, api.ErrWord},
		{"go 1\t", desk.Order{}, 1, api.ErrWord},
		{"go 1:", desk.Order{}, 1, api.ErrWord},
		{"go 1/", desk.Order{}, 1, api.ErrWord},
		{"go ٣", desk.Order{}, 1, api.ErrWord},
		{"go 1\xff", desk.Order{}, 1, api.ErrWord},
		{"open 255", desk.Order{Verb: "open", N: []int{255}}, 0, api.OK},
		{"open 256", desk.Order{}, 1, api.ErrWord},
		{"event 256", desk.Order{}, 1, api.ErrWord},
		{"lay 255 255 255 255", desk.Order{Verb: "lay", N: []int{255, 255, 255, 255}}, 0, api.OK},
		{"lay 256 1 1 1", desk.Order{}, 1, api.ErrWord},
		{"lay 1 1 1 256", desk.Order{}, 4, api.ErrWord},
		{"hold 255 255 255", desk.Order{Verb: "hold", N: []int{255, 255, 255}}, 0, api.OK},
		{"hold 1 1 256", desk.Order{}, 3, api.ErrWord},
		{"write 1 300", desk.Order{Verb: "write", N: []int{1, 300}}, 0, api.OK},
		{"write 1 300 255", desk.Order{Verb: "write", N: []int{1, 300, 255}}, 0, api.OK},
		{"write 1 300 256", desk.Order{}, 3, api.ErrWord},
		{"write 256 300 256", desk.Order{}, 1, api.ErrWord},
		{"write 1", desk.Order{}, 2, api.ErrWord},
		{"app 255 256 9", desk.Order{Verb: "app", N: []int{255, 256, 9}}, 0, api.OK},
		{"app 256 1", desk.Order{}, 1, api.ErrWord},
		{"app 1", desk.Order{}, 2, api.ErrWord},
		{"push", desk.Order{Verb: "push"}, 0, api.OK},
		{"push 256", desk.Order{}, 1, api.ErrWord},
		{"put 1 2", desk.Order{Verb: "put", N: []int{1, 2}}, 0, api.OK},
		{"draw 1 999", desk.Order{}, 2, api.ErrWord},
	} {
		o, place, e := desk.Parse(x.s)
		if o.Verb != x.want.Verb || len(o.N) != len(x.want.N) || len(o.N) > 0 && !reflect.DeepEqual(o.N, x.want.N) || place != x.place || e != x.e {
			t.Errorf("%q: %v %d %d", x.s, o, place, e)
		}
	}
}

func TestP22_1Verbs(t *testing.T) {
	numbers := map[string]int{
		"new": 0, "on": 0, "off": 0, "stop": 0, "read": 3, "write": 2, "open": 1, "lay": 4, "hold": 3, "push": 0, "go": 1,
		"master": 0, "slave": 0, "bus": 0, "lose": 0, "tick": 0, "event": 1, "app": 2, "put": 0, "draw": 0, "done": 0, "sample": 0, "locked": 0, "idle": 0,
	}
	more := map[string]int{"write": 20, "push": 20, "app": 20, "put": 20, "draw": 20}
	for verb, least := range numbers {
		for n := range 25 {
			s := verb + strings.Repeat(" 7", n)
			o, place, e := desk.Parse(s)
			switch most := least + more[verb]; {
			case n < least:
				if place != n+1 || e != api.ErrWord {
					t.Error(s, place, e)
				}
			case n > most:
				if place != most+1 || e != api.ErrWord {
					t.Error(s, place, e)
				}
			default:
				if o.Verb != verb || len(o.N) != n || place != 0 || e != api.OK {
					t.Error(s, o, place, e)
				}
			}
		}
	}
}

func TestP22_1Long(t *testing.T) {
	if _, place, e := desk.Parse("fly" + strings.Repeat("x", 117)); place != 0 || e != api.ErrWord {
		t.Error(place, e)
	}
	if o, place, e := desk.Parse("new" + strings.Repeat(" ", 118)); o.Verb != "" || place != 0 || e != api.ErrLong {
		t.Error(o, place, e)
	}
	if _, place, e := desk.Parse("new" + strings.Repeat(" ", 117)); place != 1 || e != api.ErrWord {
		t.Error(place, e)
	}
}

func TestP22_2Refused(t *testing.T) {
	d := desk.New()
	play(t, d, "fly, read 1 x, go, "+strings.Repeat("x", 121), "error 220 0, error 220 2, error 220 1, error 3")
	if got := d.Line(""); got != "error 220 0" {
		t.Error(got)
	}
}

func TestP22_2TenExamples(t *testing.T) {
	eight := strings.Repeat("ok, ", 8)
	for i, x := range [][2]string{
		{"read 1 2 3, go 1, done", "ok, ok, ok 3 4 5"},
		{"write 0 0 9, go 2, done", "ok, ok, error 161 92"},
		{"open 1, go 2, write 0 0 9, go 2, read 0 0 2, go 1, done", "ok, ok, ok, ok, ok, ok, ok 9 0"},
		{"open 1, go 2, locked, off, go 1, locked", "ok, ok, 12, ok, ok, 13"},
		{"app 0 3 1 2, read 0 3 2, master, lose, go 5, done", "ok, ok, ok, ok, ok, ok 1 2"},
		{"open 4, go 2, lay 0 1 2 8, go 9, app 0 8 5 6, event 0, app 0 8 7 7, go 1, sample", eight + "0 0 5 6"},
		{"open 4, go 2, open 8, go 2, hold 1 2 8, go 9, push 3 4, go 1, event 1, read 0 8 2, go 1, done", eight + "ok, ok, ok, ok 3 4"},
		{"read 0 60 9, go 2, done", "ok, ok, error 161 80"},
		{"put 194, go 1, read 0 0 1, go 9, done", "ok, ok, ok, ok, error 160"},
		{"read 0 0 113, push 1, idle, sample", "error 1, error 2, 1, error 2"},
	} {
		t.Log(i + 1)
		play(t, begun(t), x[0], x[1])
	}
}

func TestP22_2FreshSystem(t *testing.T) {
	d := desk.New()
	play(t, d, "locked, idle, done, sample", "13, 1, error 2, error 2")
	play(t, d, "draw 7, on, go 1, open 1, go 2, write 0 63 9, go 2, locked", "ok, ok, ok, ok, ok, ok, ok, 12")
	play(t, d, "read 0 63 1, go 1, done, new, locked, done", "ok, ok, ok 9, ok, 13, error 2")
	play(t, d, "on, go 1, read 0 63 1, go 1, done, read 1 0 7, go 1, done, read 1 7 1, go 1, done", "ok, ok, ok, ok, ok 0, ok, ok, ok 1 2 3 4 5 6 7, ok, ok, ok 8")
	play(t, d, "read 1 8 1, go 1, done, read 2 0 1, go 1, done, read 0 64 1, go 1, done", "ok, ok, error 161 80, ok, ok, error 161 80, ok, ok, error 161 80")
	play(t, d, "open 1, go 2, done", "ok, ok, error 161 1")
	play(t, d, "app 1 0 1, app 0 64, app 0 65, app 0 60 1 2 3 4 5", "error 81, ok, error 80, error 80")
}

func TestP22_2Draw(t *testing.T) {
	d := begun(t)
	play(t, d, "open 1, go 2, done, locked", "ok, ok, ok, 12")
	play(t, d, "draw, open 4, go 2, done", "ok, ok, ok, error 161 1")
	play(t, d, "draw 1 2 3 4 5 6, open 4, go 2, done, locked", "ok, ok, ok, ok, 8")
	play(t, d, "draw 1 2 3 4 5 6 7, open 8, go 2, done, locked", "ok, ok, ok, error 3, 8")
	play(t, d, "new, on, go 1, open 1, go 1, done", "ok, ok, ok, ok, ok, error 161 1")
}

func TestP22_2Go(t *testing.T) {
	play(t, begun(t), "go 0, go 200, go 201, go 999999999", "ok, ok, error 1, error 1")
}

func TestP22_2Done(t *testing.T) {
	play(t, begun(t), "done, off, done, on, go 1, done", "ok, ok, error 162, error 162, ok, ok")
}

func TestP22_2StepsOneByOne(t *testing.T) {
	d := begun(t)
	play(t, d, "read 1 0 1, idle, master, idle, bus, slave, slave, done, bus, master, done", "ok, 1, ok, 0, ok, ok, ok, error 162, ok, ok, ok 1")
	play(t, d, "read 1 0 1, master, lose, idle, tick, tick, tick, master, bus, slave, slave, bus, master, go 1, done", "ok, ok, ok, 1, ok, ok, ok, ok, ok, ok, ok, ok, ok, ok, ok 1")
	play(t, d, "open 1, master, bus, slave, slave, bus, master, go 1, done", "ok, ok, ok, ok, ok, ok, ok, ok, ok")
	play(t, d, "read 1 0 1, master, bus, tick, tick, tick, master, lose, tick, tick, tick, done", "ok, ok, ok, ok, ok, ok, ok, ok, ok, ok, ok, error 160")
}

func TestP22_2ThreeTicksTwoTries(t *testing.T) {
	d := begun(t)
	play(t, d, "read 1 0 1, master, lose, tick, tick, master, idle, tick, master, idle, lose", "ok, ok, ok, ok, ok, ok, 1, ok, ok, 0, ok")
	play(t, d, "tick, tick, done, tick, done", "ok, ok, error 162, ok, error 160")
}

// TestP22_2TwoPages lets commands on pages come from elsewhere.
func TestP22_2TwoPages(t *testing.T) {
	d := begun(t)
	play(t, d, "open 1, go 2, put 207 3 0 1, go 1, read 1 0 8, go 2, done", "ok, ok, ok, ok, ok, ok, ok 0 0 0 0 0 0 0 0")
	play(t, d, "write 1 0 9, go 2, done, put 207 3 0 2, go 1, read 1 0 1, go 1, done", "ok, ok, ok, ok, ok, ok, ok, ok 9")
	play(t, d, "app 1 7 6, put 207 2 0 0, go 1, app 1 6 5, read 1 6 2, go 1, done", "ok, ok, ok, ok, ok, ok, ok 7 8")
}

func TestP22_2Stop(t *testing.T) {
	d := begun(t)
	play(t, d, "open 4, go 2, lay 1 2 3 0, go 9, app 0 0 1 2 3, event 1, go 1, sample, event 1, go 1, sample", "ok, ok, ok, ok, ok, ok, ok, error 2, ok, ok, 0 0 1 2 3")
	play(t, d, "event 0, event 0, event 255, go 1, sample, stop, go 1, done, event 1, event 1, go 1, sample", "ok, ok, ok, ok, error 2, ok, ok, ok, ok, ok, ok, error 2")
	play(t, d, "lay 0 0 1 1, lay 0 1 0 1, lay 0 1 8 1, lay 2 1 1 1, go 9, done", "error 1, error 1, error 1, ok, ok, error 161 1")
}

func TestP22_2SampleTellsWhatWasLost(t *testing.T) {
	d := begun(t)
	play(t, d, "open 4, go 2, lay 0 1 1 0, go 9", "ok, ok, ok, ok")
	for range 17 {
		play(t, d, "event 0", "ok")
	}
	for range 16 {
		play(t, d, "go 1, sample", "ok, 0 0 0")
	}
	play(t, d, "go 9, sample, app 0 0 7, event 0, event 0, go 2, sample, sample", "ok, error 2, ok, ok, ok, ok, 0 1 7, 0 0 7")
}

func TestP22_2Push(t *testing.T) {
	d := begun(t)
	play(t, d, "open 4, go 2, open 8, go 2, hold 0 1 5, go 9, done", "ok, ok, ok, ok, ok, ok, ok")
	play(t, d, "push, push 1 2 3 4 5 6 7, push 1 2 3 4 5 6 7 8, go 2, event 0, read 0 5 2, go 1, done", "ok, ok, error 1, ok, ok, ok, ok, ok 1 0")
	play(t, d, "push 9, go 1, event 1, read 0 5 1, go 1, done, event 0, read 0 5 1, go 1, done", "ok, ok, ok, ok, ok, ok 1, ok, ok, ok, ok 9")
	for range 64 {
		play(t, d, "push 1", "ok")
	}
	play(t, d, "push 1", "error 20")
}

func TestP22_2Put(t *testing.T) {
	d := begun(t)
	play(t, d, "put, put 1 2 3 4 5 6 7 8, put 1 2 3 4 5 6 7 8 9", "ok, ok, error 3")
	play(t, d, "idle, slave, slave, idle, put 195, slave, slave, idle, bus, master, idle", "0, ok, ok, 1, ok, ok, ok, 0, ok, ok, 1")
}

func TestP22_2WriteNothing(t *testing.T) {
	play(t, begun(t), "write 0 0, read 0 0 0, open 1, go 2, write 0 0 1 2 3 4 5 6 7 8 9 10 11 12 13 14 15 16 17 18 19 20, go 9, read 0 18 4, go 1, done", "error 1, error 1, ok, ok, ok, ok, ok, ok, ok 19 20 0 0")
}

func TestP22_2NilDesk(t *testing.T) {
	var d *desk.Desk
	play(t, d, "new, fly, done", "error 2, error 2, error 2")
	if got := d.Line(strings.Repeat("x", 121)); got != "error 2" {
		t.Error(got)
	}
	if got, e := d.Run("new\n"); got != "" || e != api.ErrNone {
		t.Error(got, e)
	}
	if got, e := d.Run(strings.Repeat("\n", 300)); got != "" || e != api.ErrNone {
		t.Error(got, e)
	}
}

func TestP22_3Run(t *testing.T) {
	for i, x := range []struct{ script, want string }{
		{"", ""},
		{"\n", "error 220 0\n"},
		{"\n\n", "error 220 0\nerror 220 0\n"},
		{"idle", "1\n"},
		{"idle\n", "1\n"},
		{"idle\n\nidle", "1\nerror 220 0\n1\n"},
		{"idle\r\nidle", "error 220 0\n1\n"},
		{"on\ngo 1\nread 1 0 3\ngo 1\ndone\nfly", "ok\nok\nok\nok\nok 1 2 3\nerror 220 0\n"},
		{strings.Repeat("x", 121) + "\nidle", "error 3\n1\n"},
	} {
		if got, e := desk.New().Run(x.script); got != x.want || e != api.OK {
			t.Errorf("%d: %q %d", i, got, e)
		}
	}
}

func TestP22_3RunOfMost(t *testing.T) {
	most := strings.Repeat("idle\n", 200)
	if got, e := desk.New().Run(most); got != strings.Repeat("1\n", 200) || e != api.OK {
		t.Error(e)
	}
	for _, more := range []string{"\n", "x", "idle"} {
		d := desk.New()
		if got, e := d.Run("on\n" + most[5:] + more); got != "" || e != api.ErrLong {
			t.Error(more, got, e)
		}
		play(t, d, "done", "error 2")
	}
}

func TestP22_4OneBehindTheOther(t *testing.T) {
	script := strings.Split("draw 7,on,go 1,open 1,go 2,write 0 3 5 6,go 3,fly,,read 0 3 2,go 1,done,lay 0 1 1 1,go 2,open 4,go 2,lay 0 1 1 3,go 9,event 0,go 1,sample,put 194,go 1,locked", ",")
	whole, e := desk.New().Run(strings.Join(script, "\n"))
	if e != api.OK || !strings.Contains(whole, "ok 5 6\n") || !strings.HasSuffix(whole, "\n0 0 5\nok\nok\n13\n") {
		t.Error(whole, e)
	}
	for i := range script {
		d := desk.New()
		first := ""
		if i > 0 {
			first = strings.Join(script[:i], "\n") + "\n"
		}
		a, e1 := d.Run(first)
		b, e2 := d.Run(strings.Join(script[i:], "\n"))
		if a+b != whole || e1 != api.OK || e2 != api.OK {
			t.Errorf("%d: %q %q", i, a, b)
		}
	}
}
