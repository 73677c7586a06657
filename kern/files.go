package kern

import (
	"ringfence/api"
	"ringfence/look"
	"ringfence/procs"
	"ringfence/rights"
	"ringfence/store"
)

const bothFlags = api.FlagCreate | api.FlagTrunc

func (t *task) openFromRoot() api.Errno {
	if err := wrongOpen(t.c); err != api.OK {
		return err
	}
	return t.openFrom(root, false)
}

func (t *task) openBeneath() api.Errno {
	if err := wrongOpen(t.c); err != api.OK {
		return err
	}
	if err := t.take(neededBeneath(t.c)); err != api.OK {
		return err
	}
	return t.openFrom(t.obj, true)
}

func wrongOpen(c api.Call) api.Errno {
	if !rights.Right(c.Rights) || c.Flags < 0 || c.Flags > bothFlags {
		return api.ErrRange
	}
	return api.OK
}

// neededBeneath has Rights too: what is opened can no more than the directory
// through which it was come to.
func neededBeneath(c api.Call) int {
	need := rights.Join(api.Lookup, c.Rights)
	if c.Flags&api.FlagCreate != 0 {
		need = rights.Join(need, api.Create)
	}
	if c.Flags&api.FlagTrunc != 0 {
		need = rights.Join(need, api.Write)
	}
	return need
}

func (t *task) openFrom(base int, fence bool) api.Errno {
	found, err := look.Path(t.k.Objects, base, t.c.Path, fence, true)
	if err != api.OK {
		return err
	}
	obj, err := t.toOpen(found)
	if err != api.OK {
		return err
	}
	if t.a.N, err = t.opened(obj, t.c.Rights); err != api.OK {
		return err
	}
	if t.c.Flags&api.FlagTrunc != 0 {
		t.k.Objects[obj].Data = nil
	}
	return api.OK
}

func (t *task) toOpen(found api.Found) (int, api.Errno) {
	switch {
	case found.Obj < 0 && t.c.Flags&api.FlagCreate == 0:
		return 0, api.ErrNone
	case found.Obj < 0:
		return t.made(found, api.Object{Kind: api.ObjFile})
	case t.c.Flags&api.FlagTrunc != 0 && t.k.Objects[found.Obj].Kind == api.ObjDir:
		return 0, api.ErrFile
	}
	return found.Obj, api.OK
}

// made is one way for files, directories and links: each of them is no end,
// and no process.
func (t *task) made(found api.Found, o api.Object) (int, api.Errno) {
	o.Peer, o.Proc = none, none
	objects, obj, err := store.Make(t.k.Objects, o)
	if err != api.OK {
		return 0, err
	}
	t.k.Objects, err = store.Enter(objects, found.Dir, found.Name, obj)
	return obj, err
}

func (t *task) opened(obj, set int) (int, api.Errno) {
	k, fd, err := procs.Opened(t.k, t.c.Proc, obj, set)
	t.k = k
	return fd, err
}

func (t *task) read() api.Errno {
	open := &t.k.Opens[t.open]
	data, err := store.Read(t.k.Objects[t.obj], open.At, t.c.N)
	open.At += len(data)
	t.a.N, t.a.Data = len(data), data
	return err
}

func (t *task) write() api.Errno {
	open := &t.k.Opens[t.open]
	o, err := store.Write(t.k.Objects[t.obj], open.At, t.c.Data)
	t.k.Objects[t.obj] = o
	open.At += len(t.c.Data)
	t.a.N = len(t.c.Data)
	return err
}

func (t *task) seek() api.Errno {
	if t.c.N < 0 || t.c.N > api.MaxData {
		return api.ErrRange
	}
	t.k.Opens[t.open].At = t.c.N
	return api.OK
}
