package disk

import (
	"slices"
	"strings"

	"tillroll/api"
	"tillroll/bbt"
	"tillroll/drive"
	"tillroll/geo"
	"tillroll/nand"
	"tillroll/twin"
)

// maker makes a chip a disk: it knows the drive, and how many blocks may be bad.
type maker struct {
	drive  *drive.Drive
	shape  nand.Shape
	spares int
}

// Format: a chip is made one without logical pages.
func Format(c *nand.Chip, g geo.Config) api.Errno {
	if err := check(c, g); err != api.OK {
		return err
	}
	d, _ := drive.New(c)
	f := maker{d, g.Shape, g.Spares}
	t, err := f.factory()
	if err != api.OK {
		return err
	}
	w, err := f.tables(t)
	if err != api.OK {
		return err
	}
	return f.clean(w)
}

// enough: are few enough blocks bad?
func (f maker) enough(t bbt.Table) api.Errno {
	if len(t.List()) > f.spares {
		return api.ErrRead
	}
	return api.OK
}

// factory: the table of the blocks that are bad from the factory.
func (f maker) factory() (bbt.Table, api.Errno) {
	t, _ := bbt.New(f.shape.Blocks)
	for b := range f.shape.Blocks {
		p, err := f.drive.Read(b, 0)
		if err != api.OK {
			return bbt.Table{}, err
		}
		// A page that was torn, or failed, may look so, too, but for its bytes.
		if p.State == drive.Factory && p.Data == strings.Repeat("\xff", f.shape.Size) {
			t, _ = t.With(b)
		}
	}
	return t, api.OK
}

// good: the blocks that aren't bad, nor in a list.
func (f maker) good(t bbt.Table, but []int) []int {
	var l []int
	for b := range f.shape.Blocks {
		if !t.Has(b) && !slices.Contains(but, b) {
			l = append(l, b)
		}
	}
	return l
}

// tables: the table is in two blocks, whichever fail.
func (f maker) tables(t bbt.Table) (*twin.Twin, api.Errno) {
	for f.enough(t) == api.OK {
		l := f.good(t, nil)
		w, err := twin.Format(f.drive, t, [2]int{l[0], l[1]})
		if err == api.ErrRead {
			t, _ = t.With(l[0])
			t, _ = t.With(l[1])
			continue
		}
		if err == api.OK {
			err = f.join(w)
		}
		return w, err
	}
	return nil, api.ErrRead
}

// join: where one of the two failed, another one has the table.
func (f maker) join(w *twin.Twin) api.Errno {
	for len(w.Blocks()) < geo.Tables && f.enough(w.Table()) == api.OK {
		l := f.good(w.Table(), w.Blocks())
		if w.Join(l[0]) == api.ErrPower {
			return api.ErrPower
		}
	}
	return f.enough(w.Table())
}

// clean: what other blocks have of another life is erased.
func (f maker) clean(w *twin.Twin) api.Errno {
	for _, b := range f.good(w.Table(), w.Blocks()) {
		blank, err := f.blank(b)
		if err != api.OK {
			return err
		}
		if blank {
			continue
		}
		if err := f.drive.Erase(b); err == api.ErrPower {
			return err
		} else if err != api.OK {
			if w.Mark(b) == api.ErrPower {
				return api.ErrPower
			}
			if err := f.join(w); err != api.OK {
				return err
			}
		}
	}
	return api.OK
}

// blank: are all of a block's pages erased?
func (f maker) blank(b int) (bool, api.Errno) {
	for i := range f.shape.Pages {
		p, err := f.drive.Read(b, i)
		if err != api.OK {
			return false, err
		}
		if p.State != drive.Blank {
			return false, api.OK
		}
	}
	return true, api.OK
}
