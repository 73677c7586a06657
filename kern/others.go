package kern

import (
	"ringfence/api"
	"ringfence/channel"
	"ringfence/procs"
	"ringfence/table"
)

const (
	ofEnd  = api.Send | api.Recv | api.Stat
	killed = 255 // Code of a process that another one ended
)

func (t *task) pair() api.Errno {
	objects, ends, err := channel.Pair(t.k.Objects)
	if err != api.OK {
		return err
	}
	t.k.Objects = objects
	if t.a.N, err = t.opened(ends[0], ofEnd); err != api.OK {
		return err
	}
	t.a.M, err = t.opened(ends[1], ofEnd)
	return err
}

func (t *task) send() api.Errno {
	m := api.Message{Data: t.c.Data}
	if t.c.FD2 >= 0 {
		c, err := table.Get(t.proc().Slots, t.c.FD2)
		if err != api.OK {
			return err
		}
		m.Has, m.Cap = true, c
	}
	objects, err := channel.Send(t.k.Objects, t.obj, m)
	t.k.Objects = objects
	t.a.N = len(m.Data)
	return err
}

func (t *task) recv() api.Errno {
	objects, m, err := channel.Recv(t.k.Objects, t.obj)
	if err != api.OK {
		return err
	}
	t.k.Objects = objects
	t.a.N, t.a.M, t.a.Data = len(m.Data), none, m.Data
	if !m.Has {
		return api.OK
	}
	t.proc().Slots, t.a.M, err = table.Put(t.proc().Slots, m.Cap)
	return err
}

func (t *task) fork() api.Errno {
	k, child, fd, err := procs.Fork(t.k, t.c.Proc)
	t.k = k
	t.a.N, t.a.M = child, fd
	return err
}

func (t *task) exit() api.Errno { return t.end(t.c.Proc, t.c.N) }

func (t *task) end(p, code int) api.Errno {
	k, err := procs.Exit(t.k, p, code)
	t.k = k
	return err
}

func (t *task) kill() api.Errno {
	o := t.k.Objects[t.obj]
	if o.Kind != api.ObjProc {
		return api.ErrFit
	}
	return t.end(o.Proc, killed)
}

// wait looks whether the process is there, so that a kernel that no call makes
// is refused, too.
func (t *task) wait() api.Errno {
	o := t.k.Objects[t.obj]
	switch {
	case o.Kind != api.ObjProc:
		return api.ErrFit
	case procs.Live(t.k, o.Proc):
		return api.ErrAgain
	case o.Proc < 0 || o.Proc >= len(t.k.Procs):
		return api.ErrNone
	}
	t.a.N = t.k.Procs[o.Proc].Code
	return api.OK
}

func (t *task) enter() api.Errno {
	t.proc().Fenced = true
	return api.OK
}

func (t *task) mode() api.Errno {
	t.a.N = number(t.proc().Fenced)
	return api.OK
}
