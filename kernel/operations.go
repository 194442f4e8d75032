package kernel

import "viceroy/api"

// wish is what an operation is found by: the kind of the cap that is asked, and the label.
type wish struct{ kind, label int }

// operation is what one wants, and does: how many words at least, and of which kind the other cap is.
type operation struct {
	words, other int
	does         func(*request) api.Errno
}

// What an operation says of the other cap that is no kind.
const (
	noOther  = api.Null
	anyOther = -1
)

// operations are all.
func operations() map[wish]operation {
	return map[wish]operation{
		{api.Untyped, api.DoRetype}: {words: 4, other: api.CNode, does: (*request).retype},
		{api.CNode, api.DoCopy}:     {words: 2, other: anyOther, does: (*request).copyCap},
		{api.CNode, api.DoMint}:     {words: 3, other: anyOther, does: (*request).mint},
		{api.CNode, api.DoMove}:     {words: 1, other: anyOther, does: (*request).move},
		{api.CNode, api.DoDelete}:   {words: 1, does: (*request).remove},
		{api.CNode, api.DoRevoke}:   {words: 1, does: (*request).revoke},
		{api.Tcb, api.DoSuspend}:    {does: (*request).suspend},
		{api.Tcb, api.DoResume}:     {does: (*request).resume},
		{api.Tcb, api.DoReadReg}:    {words: 1, does: (*request).readRegister},
		{api.Tcb, api.DoWriteReg}:   {words: 2, does: (*request).writeRegister},
		{api.Tcb, api.DoPriority}:   {words: 1, does: (*request).setPriority},
		{api.Frame, api.DoMap}:      {words: 2, other: api.Table, does: (*request).mapFrame},
		{api.Frame, api.DoUnmap}:    {does: (*request).unmapFrame},
		{api.Table, api.DoMapTable}: {words: 1, other: api.Table, does: (*request).mapTable},
		{api.Table, api.DoUnTable}:  {does: (*request).unmapTable},
		{api.Table, api.DoAssign}:   {does: (*request).assign},
		{api.Vcpu, api.DoInject}:    {words: 3, does: (*request).inject},
		{api.Vcpu, api.DoReadSys}:   {words: 1, does: (*request).readSystem},
		{api.Vcpu, api.DoWriteSys}:  {words: 2, does: (*request).writeSystem},
		{api.Stream, api.DoAttach}:  {other: api.Table, does: (*request).attach},
		{api.Stream, api.DoDetach}:  {does: (*request).detach},
		{api.Irq, api.DoSetNote}:    {other: api.Note, does: (*request).setNote},
		{api.Irq, api.DoAck}:        {does: (*request).acknowledge},
	}
}

// maxWords is how many words an operation has at most.
const maxWords = 4

// request is what is asked: by whom, of which cap in which slot, with which other one, with which words.
type request struct {
	*Kernel
	by      *thread
	c       api.Cap
	at      api.Ref
	other   api.Cap
	otherAt api.Ref
	words   [maxWords]uint32
}

// word is one of the words as a number.
func (r *request) word(n int) int { return int(r.words[n]) }

// ask lets a cap do what a thread asks it for.
func (k *Kernel) ask(t *thread, c api.Cap, at api.Ref) api.Errno {
	o, ok := operations()[wish{c.Kind, t.label()}]
	if !ok {
		return api.ErrCall
	}
	if t.many() < o.words {
		return api.ErrArg
	}
	r := &request{Kernel: k, by: t, c: c, at: at}
	copy(r.words[:], t.regs[wordRegister:])
	if o.other != noOther {
		var e api.Errno
		r.other, r.otherAt, e = k.find(t, t.regs[sendRegister])
		if e != api.OK {
			return e
		}
		if o.other != anyOther && r.other.Kind != o.other {
			return api.ErrKind
		}
	}
	return o.does(r)
}

// answer is what an operation tells beside its error: in a register of who asks.
func (r *request) answer(w uint32) { r.by.regs[wordRegister] = w }

// pcRegister is the Pc, where registers are read and written by their numbers.
const pcRegister = api.Registers

// subject is the thread that the cap is of.
func (r *request) subject() *thread { return r.thread(r.c.Obj) }

// stay lets a thread wait no more, and for no answer to a fault.
func (r *request) stay(t *thread) {
	r.mail.Cancel(t.number)
	t.faulted = false
}

func (r *request) suspend() api.Errno {
	t := r.subject()
	r.stay(t)
	t.off = true
	return r.queue.Stop(t.number)
}

func (r *request) resume() api.Errno {
	t := r.subject()
	r.stay(t)
	t.off = false
	return r.queue.Wake(t.number)
}

func (r *request) readRegister() api.Errno {
	n, t := r.word(0), r.subject()
	if n > pcRegister {
		return api.ErrArg
	}
	if n == pcRegister {
		r.answer(uint32(t.pc))
	} else {
		r.answer(t.regs[n])
	}
	return api.OK
}

func (r *request) writeRegister() api.Errno {
	n, t := r.word(0), r.subject()
	if t == r.by || n > pcRegister {
		return api.ErrArg
	}
	if n == pcRegister {
		t.setPc(r.words[1])
	} else {
		t.regs[n] = r.words[1]
	}
	return api.OK
}

func (r *request) setPriority() api.Errno {
	own, _ := r.queue.Thread(r.by.number)
	if r.word(0) > own.Priority {
		return api.ErrRights
	}
	return r.queue.SetPriority(r.c.Obj, r.word(0))
}

func (r *request) inject() api.Errno {
	return r.guests.Inject(r.c.Obj, r.word(0), r.word(1), r.words[2] != 0)
}

func (r *request) readSystem() api.Errno {
	w, e := r.guests.Read(r.c.Obj, r.word(0))
	if e != api.OK {
		return e
	}
	r.answer(w)
	return api.OK
}

func (r *request) writeSystem() api.Errno {
	return r.guests.Write(r.c.Obj, r.word(0), r.words[1])
}

// setNote lays a notification into the line's slot: it is told there of each interrupt.
func (r *request) setNote() api.Errno {
	if !has(r.other, api.Write) {
		return api.ErrRights
	}
	r.finishLine(r.c.Obj)
	r.lay(lineSlot(r.c.Obj), r.other, r.otherAt)
	return r.lines.Enable(r.c.Obj, true)
}

func (r *request) acknowledge() api.Errno { return r.lines.End(r.c.Obj) }
