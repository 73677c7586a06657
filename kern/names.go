package kern

import (
	"strings"

	"ringfence/api"
	"ringfence/look"
	"ringfence/path"
	"ringfence/procs"
	"ringfence/store"
	"ringfence/table"
)

func (t *task) close() api.Errno {
	slots, err := table.Close(t.proc().Slots, t.c.FD)
	t.proc().Slots = slots
	return err
}

func (t *task) dup() api.Errno {
	slots, fd, err := table.Dup(t.proc().Slots, t.c.FD)
	t.proc().Slots = slots
	t.a.N = fd
	return err
}

func (t *task) limit() api.Errno {
	slots, err := table.Limit(t.proc().Slots, t.c.FD, t.c.Rights)
	t.proc().Slots = slots
	return err
}

func (t *task) stat() api.Errno {
	o := t.k.Objects[t.obj]
	t.a.N, t.a.M = o.Kind, t.size(o)
	return api.OK
}

// size asks for the kind, since fields that a kind has not mean nothing.
func (t *task) size(o api.Object) int {
	switch o.Kind {
	case api.ObjFile:
		return len(o.Data)
	case api.ObjDir:
		return len(o.Entries)
	case api.ObjEnd:
		return len(o.Queue)
	case api.ObjProc:
		return number(procs.Live(t.k, o.Proc))
	}
	return 0
}

func number(b bool) int {
	if b {
		return 1
	}
	return 0
}

func (t *task) list() api.Errno {
	o := t.k.Objects[t.obj]
	if o.Kind != api.ObjDir {
		return api.ErrDir
	}
	names := store.Names(o)
	t.a.N, t.a.Data = len(names), []byte(strings.Join(names, "\n"))
	return api.OK
}

func (t *task) makeDir() api.Errno {
	return t.name(api.Object{Kind: api.ObjDir})
}

func (t *task) makeLink() api.Errno {
	target := string(t.c.Data)
	if _, _, err := path.Split(target); err != api.OK {
		return err
	}
	return t.name(api.Object{Kind: api.ObjLink, Target: target})
}

func (t *task) name(o api.Object) api.Errno {
	found, err := t.place()
	if err != api.OK {
		return err
	}
	if found.Obj >= 0 {
		return api.ErrName
	}
	_, err = t.made(found, o)
	return err
}

func (t *task) unlink() api.Errno {
	found, err := t.place()
	if err != api.OK {
		return err
	}
	if found.Obj < 0 {
		return api.ErrNone
	}
	t.k.Objects, _, err = store.Remove(t.k.Objects, found.Dir, found.Name)
	return err
}

// place doesn't follow a last link: it is the name that comes or goes, not
// what it leads to.
func (t *task) place() (api.Found, api.Errno) {
	found, err := look.Path(t.k.Objects, t.obj, t.c.Path, true, false)
	if err == api.OK && found.Name == "" {
		err = api.ErrFit
	}
	return found, err
}
