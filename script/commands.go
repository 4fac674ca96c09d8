package script

import (
	"math"
	"strconv"
	"strings"

	"tillroll/api"
	"tillroll/cents"
	"tillroll/geo"
	"tillroll/nand"
	"tillroll/sale"
	"tillroll/state"
	"tillroll/till"
)

// need is what there must be for a command.
type need int

// The needs.
const (
	nothing need = iota
	aChip
	aMake
	aTill
)

// command is a line's first word, what stands behind it, and what it does.
type command struct {
	name    string
	numbers int  // how many numbers stand behind it
	more    bool // may more numbers stand behind these?
	bytes   bool // do bytes stand behind these?
	needs   need
	do      func(*Console, args) string
}

// args is what stands behind a command.
type args struct {
	numbers []int
	bytes   string
}

// commands: all of them.
func commands() []command {
	return []command{
		{"chip", 3, true, false, nothing, (*Console).newChip},
		{"make", 10, false, false, aChip, (*Console).makeTill},
		{"mount", 0, false, false, aMake, (*Console).mount},
		{"ask", 0, false, true, aTill, (*Console).ask},
		{"cut", 1, false, true, aChip, (*Console).cut},
		{"wreck", 1, false, false, aChip, (*Console).wreck},
		{"stat", 0, false, false, aTill, (*Console).stat},
		{"chipped", 0, false, false, aChip, (*Console).chipped},
		{"know", 0, false, false, aTill, (*Console).know},
		{"audit", 0, false, false, aTill, (*Console).audit},
		{"books", 0, false, false, aTill, (*Console).books},
		{"sheet", 0, false, false, aTill, (*Console).sheet},
		{"shift", 1, false, false, aTill, (*Console).shift},
		{"left", 0, false, false, aTill, (*Console).left},
	}
}

// counts: may so many words stand behind it?
func (x command) counts(words int) bool {
	least := x.numbers
	if x.bytes {
		least++
	}
	return words == least || x.more && words > least
}

// read: what the words behind it are; false, if one isn't what it must be.
func (x command) read(words []string) (args, bool) {
	var a args
	if x.bytes {
		last := len(words) - 1
		b, ok := Unhex(words[last])
		if !ok {
			return args{}, false
		}
		a.bytes = b
		words = words[:last]
	}
	for _, w := range words {
		n, err := strconv.Atoi(w)
		if err != nil || n < 0 || n > math.MaxInt32 || strconv.Itoa(n) != w {
			return args{}, false
		}
		a.numbers = append(a.numbers, n)
	}
	return a, true
}

// ok: an answer of some words.
func ok(words ...string) string { return strings.Join(append([]string{"ok"}, words...), " ") }

// okNumbers: an answer of some numbers.
func okNumbers(l ...int) string {
	var words []string
	for _, n := range l {
		words = append(words, strconv.Itoa(n))
	}
	return ok(words...)
}

// okLines: an answer of some lines.
func okLines(l []string) string { return strings.Join(append([]string{ok()}, l...), "/") }

// told: an answer that is an error, or just that there is none.
func told(err api.Errno) string {
	if err != api.OK {
		return err.Error()
	}
	return ok()
}

func (c *Console) newChip(a args) string {
	n := a.numbers
	chip, err := nand.New(nand.Shape{Blocks: n[0], Pages: n[1], Size: n[2]}, n[3:])
	if err == api.OK {
		*c = Console{chip: chip}
	}
	return told(err)
}

func (c *Console) makeTill(a args) string {
	n := a.numbers
	c.config = till.Config{
		Disk:  geo.Config{Shape: c.chip.Shape(), Spares: n[0], Logical: n[1], Batch: n[2], Level: n[3]},
		Snap:  n[4],
		State: state.Config{Keep: n[5], Keys: n[6], Shifts: n[7], Cash: n[8], Returns: n[9]},
	}
	c.made, c.till = true, nil
	if err := till.Format(c.chip, c.config); err != api.OK {
		return told(err)
	}
	return c.open()
}

// open: the till on the chip, if there is one.
func (c *Console) open() string {
	t, err := till.Mount(c.chip, c.config)
	c.till = t
	return told(err)
}

func (c *Console) mount(args) string {
	c.chip.On()
	return c.open()
}

func (c *Console) ask(a args) string { return ok(Hex(c.till.Handle(a.bytes))) }

func (c *Console) cut(a args) string {
	c.chip.Fuse(a.numbers[0], a.bytes)
	return ok()
}

func (c *Console) wreck(a args) string {
	c.chip.Wreck(a.numbers[0])
	return ok()
}

func (c *Console) stat(args) string {
	s := c.till.Disk().Stat()
	read := 0
	if s.Read {
		read = 1
	}
	return okNumbers(s.Bad, s.Free, s.Live, s.Low, s.High, int(s.Seq), read)
}

func (c *Console) chipped(args) string {
	programs, erases := c.chip.Count()
	return okNumbers(programs, erases, c.chip.Sins())
}

func (c *Console) know(args) string {
	s, err := c.till.State().Text()
	if err != api.OK {
		return told(err)
	}
	return ok(Hex(s))
}

func (c *Console) audit(args) string { return told(c.till.Audit()) }

func (c *Console) books(args) string {
	s := c.till.State()
	return okLines(s.Books().Lines(s.Chart()))
}

func (c *Console) sheet(args) string {
	s := c.till.State()
	x, err := s.Books().Sheet(s.Chart())
	if err != api.OK {
		return told(err)
	}
	var words []string
	for _, n := range x.Kinds[1:] {
		words = append(words, n.Text())
	}
	return ok(append(words, x.Profit.Text())...)
}

func (c *Console) shift(a args) string { return okLines(c.till.State().Shifts().Lines(a.numbers[0])) }

func (c *Console) left(args) string {
	open := sale.Ask{Open: true, Most: cents.Cents(math.MaxInt64)}
	return okNumbers(c.till.State().Register().Find(open)...)
}
