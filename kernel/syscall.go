package kernel

import "viceroy/api"

// syscall does what a thread asks for, and tells it the error; what is not done to its end is asked again by the same instruction.
func (k *Kernel) syscall(t *thread, n int) api.Errno {
	at := t.pc
	t.goOn()
	e := k.serve(t, n)
	if e == api.ErrAgain {
		t.pc = at
		return e
	}
	t.regs[errorRegister] = uint32(e)
	return e
}

func (k *Kernel) serve(t *thread, n int) api.Errno {
	switch n {
	case api.SysCall, api.SysSend, api.SysNBSend:
		return k.send(t, n)
	case api.SysRecv, api.SysNBRecv:
		return k.receive(t, n == api.SysRecv)
	case api.SysReply:
		return k.reply(t)
	case api.SysReplyRecv:
		k.reply(t)
		return k.receive(t, true)
	case api.SysYield:
		return k.queue.Yield()
	}
	return api.ErrCall
}

// send is what a thread asks of a cap: to signal, to send, or what else the cap's kind can do.
func (k *Kernel) send(t *thread, n int) api.Errno {
	c, at, e := k.find(t, t.regs[addressRegister])
	if e != api.OK {
		return e
	}
	switch c.Kind {
	case api.Note:
		if !has(c, api.Write) {
			return api.ErrRights
		}
		k.signal(c)
		return api.OK
	case api.Endpoint:
		return k.sendTo(t, c, n)
	}
	return k.ask(t, c, at)
}

// sendTo sends over an endpoint.
func (k *Kernel) sendTo(t *thread, c api.Cap, n int) api.Errno {
	wanted := api.Write
	if n == api.SysCall {
		wanted |= api.Grant
	}
	if !has(c, wanted) {
		return api.ErrRights
	}
	t.grants = has(c, api.Grant)
	to, e := k.mail.Send(c.Obj, t.number, t.message(c.Badge), n == api.SysCall, n != api.SysNBSend)
	if r := k.thread(to); r != nil {
		k.deliver(r)
		k.bring(t, r)
		k.wake(r)
	}
	k.rest(t)
	return e
}

// receive is what a thread asks for: a message, or a signal.
func (k *Kernel) receive(t *thread, block bool) api.Errno {
	c, _, e := k.find(t, t.regs[addressRegister])
	if e != api.OK {
		return e
	}
	if c.Kind != api.Endpoint && c.Kind != api.Note {
		return api.ErrKind
	}
	if !has(c, api.Read) {
		return api.ErrRights
	}
	var got bool
	if c.Kind == api.Note {
		got, e = k.receiveSignal(t, c, block)
	} else {
		got, e = k.receiveFrom(t, c, block)
	}
	if !got && !block {
		t.regs[addressRegister], t.regs[infoRegister] = 0, 0
	}
	k.rest(t)
	return e
}

func (k *Kernel) receiveSignal(t *thread, c api.Cap, block bool) (bool, api.Errno) {
	k.mail.Forget(t.number)
	got, e := k.mail.Wait(c.Obj, t.number, block)
	if got {
		k.deliver(t)
	}
	return got, e
}

func (k *Kernel) receiveFrom(t *thread, c api.Cap, block bool) (bool, api.Errno) {
	woken, got, e := k.mail.Recv(c.Obj, t.number, block)
	if !got {
		return false, e
	}
	k.deliver(t)
	from := k.thread(woken)
	if from == nil {
		from = k.thread(k.mail.Caller(t.number))
	}
	// What is told of a fault is no message of the thread's own: it sends no cap.
	if from != nil && !from.faulted {
		k.bring(from, t)
	}
	if w := k.thread(woken); w != nil {
		k.wake(w)
	}
	return true, e
}

// reply answers whose call a thread has.
func (k *Kernel) reply(t *thread) api.Errno {
	to, e := k.mail.Reply(t.number, t.message(0))
	if e != api.OK {
		return e
	}
	r := k.thread(to)
	faulted := r.faulted
	k.deliver(r)
	if !faulted {
		t.grants = true
		k.bring(t, r)
	}
	k.wake(r)
	return api.OK
}
