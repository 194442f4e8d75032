/-
  An Ipc's own blocks (a struct, four maps, a block a thread, a row a queue) told as what they hold ('IsI'): laws on reading and writing them. No statement is proved here.
-/
import Derived.Test.YtjobdfkfongjaaaIpFun
import Derived.Test.YtjobdfkfongjaaaIpLit
import Derived.Test.YtjobdfkfongjaaaIpKey
namespace Go.Proofs.Ytjobdfkfongjaaa
open Go.RowKit Go.Maps Go.WideMaps

theorem row_ne {w : World} {a b : Nat} {cs cs' : Array Value} {t t' : TypeId} (h : Row w a cs t) (h' : Row w b cs' t') (ht : t ≠ t') : a ≠ b := by
  rintro rfl
  have e : some (Obj.cells cs t (0, 0)) = some (.cells cs' t' (0, 0)) := h.symm.trans h'
  simp at e
  exact ht e.2

/-! ### the map of bindings -/
def MB (w : World) (b : Nat) (f : Int → Option Nat) : Prop := ∃ K : List Int, MP w b K.length f ∧ K.Nodup ∧ (∀ k, k ∈ K ↔ (f k).isSome = true) ∧ ∀ k ∈ K, 0 ≤ k ∧ k < 1024
theorem mb_made (w : World) : MB (w.alloc (.map #[] 0)) w.heap.size (fun _ => none) := ⟨[], mp_made w, List.Pairwise.nil, by simp, by simp⟩
section
variable {w : World} {b : Nat} {f : Int → Option Nat}
theorem MB.lt (h : MB w b f) : b < w.heap.size := by obtain ⟨K, h, _⟩ := h; exact h.lt
theorem MB.keep {S : Nat → Prop} {w' : World} (h : MB w b f) (k : Fr S w w') (hs : ¬ S b) : MB w' b f := by
  obtain ⟨K, h, r⟩ := h
  exact ⟨K, h.keep k hs, r⟩
theorem MB.congr {f' : Int → Option Nat} (h : MB w b f) (e : ∀ k, f k = f' k) : MB w b f' := by
  rw [← funext e]; exact h
theorem MB.ne {c : Nat} {cs : Array Value} {t : TypeId} (h : MB w b f) (r : Row w c cs t) : b ≠ c := by
  obtain ⟨K, h, _⟩ := h
  exact h.ne r
theorem MB.look_none (h : MB w b f) {k : Int} (hk : I64 k) (hf : f k = none) :
    (Instr.lookup 68 (.map (some b)) (.int .i64 k) true).run Try.prog w = .ok (.tuple #[.pointer none, .bool false]) w := by
  obtain ⟨K, h, _⟩ := h
  exact h.look_none hk hf
theorem MB.look_some (h : MB w b f) {k : Int} (hk : I64 k) {g : Nat} (hf : f k = some g) :
    (Instr.lookup 68 (.map (some b)) (.int .i64 k) true).run Try.prog w = .ok (.tuple #[pv g, .bool true]) w := by
  obtain ⟨K, h, _⟩ := h
  exact h.look_some hk hf
theorem MB.store (h : MB w b f) {k : Int} (hk : 0 ≤ k ∧ k < 1024) (hf : f k = none) (g : Nat) {f' : Int → Option Nat} (hf' : ∀ j, f' j = if k = j then some g else f j) :
    ∃ w', (Instr.mapUpdate 68 (.map (some b)) (.int .i64 k) (pv g)).run Try.prog w = .ok () w' ∧ MB w' b f' ∧ Fr (at' b) w w' := by
  obtain ⟨K, h, h1, h2, h3⟩ := h
  have hn : K.length ≤ 1024 := len_ids 1024 K h1 (fun x hx => by have := h3 x hx; omega)
  obtain ⟨w', hrun, hm, fr⟩ := h.store hn (k := k) ⟨by omega, by omega⟩ hf g hf'
  refine ⟨w', hrun, ⟨k :: K, hm, List.nodup_cons.2 ⟨fun hm => ?_, h1⟩, fun j => ?_, fun j hj => ?_⟩, fr⟩
  · have := (h2 k).1 hm
    rw [hf] at this
    cases this
  · rw [hf', List.mem_cons, h2]
    split
    · rename_i ej; subst ej; simp
    · rename_i ej
      have : ¬ j = k := fun e => ej e.symm
      simp [this]
  · rcases List.mem_cons.1 hj with rfl | hj
    · exact hk
    · exact h3 j hj
theorem MB.drop (h : MB w b f) {k : Int} (hk : I64 k) {y : Nat} (hf : f k = some y) {f' : Int → Option Nat} (hf' : ∀ j, f' j = if j = k then none else f j) :
    ∃ w', (∀ ty, (Builtin.delete_ #[68, 3] ty #[.map (some b), .int .i64 k]).run Try.prog w = .ok (.tuple #[]) w') ∧ MB w' b f' ∧ Fr (at' b) w w' := by
  obtain ⟨K, h, h1, h2, h3⟩ := h
  have hm : k ∈ K := (h2 k).2 (by rw [hf]; rfl)
  have hl := List.length_erase_of_mem hm
  have hp := List.length_pos_of_mem hm
  have e : K.length = (K.erase k).length + 1 := by omega
  rw [e] at h
  obtain ⟨w', hrun, hm', fr⟩ := h.drop hk hf hf'
  refine ⟨w', hrun, ⟨K.erase k, hm', h1.erase k, fun j => ?_, fun j hj => h3 j (List.mem_of_mem_erase hj)⟩, fr⟩
  rw [hf', h1.mem_erase_iff, h2]
  split
  · rename_i ej; subst ej; simp
  · rename_i ej; simp [ej]
end

/-! ### a queue's row -/
/-- What lies in a queue's row; there is none where nobody waits. -/
def QR (w : World) (B : Int → Nat) (v : Option Qs) (l : List Int) : Prop := match v with
  | none => l = []
  | some z => l ≠ [] ∧ z.n = l.length ∧ z.n ≤ z.c ∧ z.c ≤ maxLen ∧ ∃ cs, Row w z.g cs 79 ∧ cs.size = z.c ∧ ∀ (j : Nat) (x : Int), l[j]? = some x → cs[j]? = some (pv (B x))
theorem QR.keep {w w' : World} {B B' : Int → Nat} {v : Option Qs} {l : List Int} (h : QR w B v l) (hk : ∀ z, v = some z → z.g < w.heap.size → w'.heap[z.g]? = w.heap[z.g]?) (hB : ∀ x ∈ l, B' x = B x) : QR w' B' v l := by
  unfold QR at h ⊢
  cases v with
  | none => exact h
  | some z =>
    obtain ⟨h1, h2, h3, h4, cs, r, hs, hx⟩ := h
    refine ⟨h1, h2, h3, h4, cs, ?_, hs, fun j x hj => ?_⟩
    · exact (hk z rfl r.lt).trans r
    · rw [hB x (List.mem_of_getElem? hj)]
      exact hx j x hj
theorem QR.row {w : World} {B : Int → Nat} {z : Qs} {l : List Int} (h : QR w B (some z) l) : ∃ cs, Row w z.g cs 79 := by
  obtain ⟨_, _, _, _, cs, r, _⟩ := h
  exact ⟨cs, r⟩

/-! ### an Ipc -/
structure Pb where
  b : Nat
  m : Nat
  q : Nat
  l : Nat
  d : Nat
  B : Int → Nat
  V : Int → Int → Option Qs
def Pb.s (p : Pb) (S : Ip) : Nat → Prop := fun k => k = p.b ∨ k = p.m ∨ k = p.q ∨ k = p.l ∨ k = p.d ∨ (∃ n ∈ S.L, k = p.B n.i) ∨ (∃ s o z, p.V s o = some z ∧ k = z.g)
def mapF (p : Pb) (L : List Th) : Int → Option Nat := fun k => (fnd L k).map fun n => p.B n.i
def bdF (p : Pb) (S : Ip) : Int → Option Nat := fun n => (S.bd n).map p.B

structure IsI (w : World) (p : Pb) (S : Ip) : Prop where
  row : Row w p.b #[.map (some p.m), .map (some p.q), .map (some p.l), .map (some p.d)] 72
  mt : MP w p.m S.L.length (mapF p S.L)
  mq : MQ w p.q p.V
  ml : ML w p.l S.lt
  mb : MB w p.d (bdF p S)
  tk : ∀ n ∈ S.L, ThR w (p.B n.i) n
  inj : ∀ n ∈ S.L, ∀ n' ∈ S.L, p.B n.i = p.B n'.i → n.i = n'.i
  qu : ∀ s o, QR w p.B (p.V s o) (S.q s o)
  apt : ∀ s o z s' o' z', p.V s o = some z → p.V s' o' = some z' → z.g = z'.g → s = s' ∧ o = o'
  mm : p.m ≠ p.q ∧ p.m ≠ p.l ∧ p.m ≠ p.d ∧ p.q ≠ p.l ∧ p.q ≠ p.d ∧ p.l ≠ p.d
  gl : GoodL S.L

section
variable {w : World} {p : Pb} {S : Ip}
theorem IsI.c0 (h : IsI w p S) : w.cell? ⟨p.b, 0, none⟩ = some (.map (some p.m)) := h.row.cell 0
theorem IsI.c1 (h : IsI w p S) : w.cell? ⟨p.b, 1, none⟩ = some (.map (some p.q)) := h.row.cell 1
theorem IsI.c2 (h : IsI w p S) : w.cell? ⟨p.b, 2, none⟩ = some (.map (some p.l)) := h.row.cell 2
theorem IsI.c3 (h : IsI w p S) : w.cell? ⟨p.b, 3, none⟩ = some (.map (some p.d)) := h.row.cell 3
theorem IsI.zrow (h : IsI w p S) {s o : Int} {z : Qs} (e : p.V s o = some z) : ∃ cs, Row w z.g cs 79 := by
  have := h.qu s o
  rw [e] at this
  exact this.row
theorem IsI.lt (h : IsI w p S) (k : Nat) (hk : p.s S k) : k < w.heap.size := by
  rcases hk with rfl | rfl | rfl | rfl | rfl | ⟨n, hn, rfl⟩ | ⟨s, o, z, e, rfl⟩
  · exact h.row.lt
  · exact h.mt.lt
  · exact h.mq.lt
  · exact h.ml.lt
  · exact h.mb.lt
  · exact (h.tk n hn).lt
  · obtain ⟨cs, r⟩ := h.zrow e
    exact r.lt
/-- Which blocks are none of the others. -/
theorem IsI.nb (h : IsI w p S) : p.b ≠ p.m ∧ p.b ≠ p.q ∧ p.b ≠ p.l ∧ p.b ≠ p.d :=
  ⟨fun e => h.mt.ne h.row e.symm, fun e => h.mq.ne h.row e.symm, fun e => h.ml.ne h.row e.symm, fun e => h.mb.ne h.row e.symm⟩
theorem IsI.nB (h : IsI w p S) {n : Th} (hn : n ∈ S.L) : p.B n.i ≠ p.b ∧ p.B n.i ≠ p.m ∧ p.B n.i ≠ p.q ∧ p.B n.i ≠ p.l ∧ p.B n.i ≠ p.d :=
  ⟨row_ne (h.tk n hn) h.row (by decide), fun e => h.mt.ne (h.tk n hn) e.symm, fun e => h.mq.ne (h.tk n hn) e.symm, fun e => h.ml.ne (h.tk n hn) e.symm, fun e => h.mb.ne (h.tk n hn) e.symm⟩
theorem IsI.nz (h : IsI w p S) {s o : Int} {z : Qs} (e : p.V s o = some z) : z.g ≠ p.b ∧ z.g ≠ p.m ∧ z.g ≠ p.q ∧ z.g ≠ p.l ∧ z.g ≠ p.d ∧ ∀ n ∈ S.L, z.g ≠ p.B n.i := by
  obtain ⟨cs, r⟩ := h.zrow e
  exact ⟨row_ne r h.row (by decide), fun e => h.mt.ne r e.symm, fun e => h.mq.ne r e.symm, fun e => h.ml.ne r e.symm, fun e => h.mb.ne r e.symm, fun n hn => row_ne r (h.tk n hn) (by decide)⟩
theorem IsI.keep {T : Nat → Prop} {w' : World} (h : IsI w p S) (f : Fr T w w') (hs : ∀ k, p.s S k → ¬ T k) : IsI w' p S :=
  ⟨h.row.keep f (hs _ (Or.inl rfl)), h.mt.keep f (hs _ (Or.inr (Or.inl rfl))), h.mq.keep f (hs _ (Or.inr (Or.inr (Or.inl rfl)))), h.ml.keep f (hs _ (Or.inr (Or.inr (Or.inr (Or.inl rfl))))), h.mb.keep f (hs _ (Or.inr (Or.inr (Or.inr (Or.inr (Or.inl rfl)))))), fun n hn => (h.tk n hn).keep f (hs _ (Or.inr (Or.inr (Or.inr (Or.inr (Or.inr (Or.inl ⟨n, hn, rfl⟩))))))), h.inj, fun s o => (h.qu s o).keep (fun z e hl => f.block _ hl (hs _ (Or.inr (Or.inr (Or.inr (Or.inr (Or.inr (Or.inr ⟨s, o, z, e, rfl⟩)))))))) (fun _ _ => rfl), h.apt, h.mm, h.gl⟩
theorem IsI.keep0 {w' : World} (h : IsI w p S) (f : Fr none' w w') : IsI w' p S := h.keep f (fun _ _ h => h)

/-- What a call leaves. -/
structure Chg (w : World) (p : Pb) (S : Ip) (w' : World) (p' : Pb) (S' : Ip) : Prop where
  is : IsI w' p' S'
  fr : Fr (p.s S) w w'
  new : ∀ k, p'.s S' k → p.s S k ∨ w.heap.size ≤ k
  eb : p'.b = p.b
  eB : ∀ x, (fnd S.L x).isSome = true → p'.B x = p.B x
  kp : ∀ x, (fnd S.L x).isSome = true → (fnd S'.L x).isSome = true

theorem Chg.same {w' : World} (h : IsI w p S) (f : Fr none' w w') : Chg w p S w' p S := ⟨h.keep0 f, f.mono (fun _ _ h => h.elim), fun _ h => Or.inl h, rfl, fun _ _ => rfl, fun _ h => h⟩
theorem Chg.trans {w1 w2 : World} {p1 p2 : Pb} {S1 S2 : Ip} (h : Chg w p S w1 p1 S1) (k : Chg w1 p1 S1 w2 p2 S2) : Chg w p S w2 p2 S2 := by
  refine ⟨k.is, ⟨k.fr.os.trans h.fr.os, k.fr.tape.trans h.fr.tape, k.fr.output.trans h.fr.output, Nat.le_trans h.fr.size k.fr.size, fun i hi hn => ?_⟩, fun i hi => ?_, k.eb.trans h.eb, fun x hx => (k.eB x (h.kp x hx)).trans (h.eB x hx), fun x hx => k.kp x (h.kp x hx)⟩
  · refine (k.fr.block i (Nat.lt_of_lt_of_le hi h.fr.size) (fun e => ?_)).trans (h.fr.block i hi hn)
    rcases h.new i e with h1 | h1
    · exact hn h1
    · omega
  · rcases k.new i hi with h1 | h1
    · exact h.new i h1
    · have := h.fr.size
      exact Or.inr (by omega)
theorem Chg.before {w0 : World} {w' : World} {p' : Pb} {S' : Ip} (f : Fr none' w0 w) (h0 : IsI w0 p S) (h : Chg w p S w' p' S') : Chg w0 p S w' p' S' := (Chg.same h0 f).trans h
theorem Chg.after {w1 w' : World} {p' : Pb} {S' : Ip} (h : Chg w p S w1 p' S') (f : Fr none' w1 w') : Chg w p S w' p' S' := h.trans (Chg.same h.is f)

theorem upd_some {L : List Th} {k : Int} {f : Th → Th} (hi : ∀ t, (f t).i = t.i) (x : Int) : (fnd (upd L k f) x).isSome = (fnd L x).isSome := by
  rw [fnd_upd hi]; cases fnd L x <;> rfl
theorem upd_i {k : Int} {f : Th → Th} (hi : ∀ t, (f t).i = t.i) (y : Th) : (if y.i = k then f y else y).i = y.i := by split; exact hi y; rfl

/-- One thread's block turned. -/
theorem IsI.setTk (h : IsI w p S) {k : Int} {t : Th} (hf : fnd S.L k = some t) {f : Th → Th} (hi : ∀ t, (f t).i = t.i) {w' : World} (fr : Fr (at' (p.B k)) w w') (hr : ThR w' (p.B k) (f t)) : Chg w p S w' p { S with L := upd S.L k f } := by
  obtain ⟨hm, hk⟩ := fnd_mem hf
  rw [← hk] at fr hr
  have hn := h.nB hm
  have hu : ∀ x ∈ S.L, x.i = k → x = t := fun x hx e => by
    have := fnd_of_mem h.gl.one hx
    rw [e, hf] at this
    exact (Option.some.inj this).symm
  refine ⟨⟨h.row.keep fr (fun e => hn.1 (Eq.symm e)), ?_, h.mq.keep fr (fun e => hn.2.2.1 (Eq.symm e)), h.ml.keep fr (fun e => hn.2.2.2.1 (Eq.symm e)), h.mb.keep fr (fun e => hn.2.2.2.2 (Eq.symm e)), fun x hx => ?_, fun x hx x' hx' e => ?_, fun s o => (h.qu s o).keep (fun z e hl => fr.block _ hl (fun e' => (h.nz e).2.2.2.2.2 t hm e')) (fun _ _ => rfl), h.apt, h.mm, good_upd h.gl hi⟩, fr.mono (fun j _ e => Or.inr (Or.inr (Or.inr (Or.inr (Or.inr (Or.inl ⟨t, hm, e⟩)))))), fun j hj => ?_, rfl, fun _ _ => rfl, fun x hx => by rw [upd_some hi]; exact hx⟩
  · have q := h.mt.keep fr (fun e => hn.2.1 (Eq.symm e))
    show MP w' p.m (upd S.L k f).length _
    rw [upd_len]
    refine q.congr fun j => ?_
    unfold mapF
    show _ = (fnd (upd S.L k f) j).map _
    rw [fnd_upd hi]
    cases fnd S.L j with
    | none => rfl
    | some x =>
      simp only [Option.map_some, Option.some.injEq]
      rw [upd_i hi]
  · obtain ⟨y, hy, rfl⟩ := mem_upd hx
    by_cases e : y.i = k
    · rw [if_pos e, hi]
      rw [hu y hy e]
      exact hr
    · rw [if_neg e]
      exact (h.tk y hy).keep fr (fun e' => e (by rw [h.inj y hy t hm e', hk]))
  · obtain ⟨y, hy, rfl⟩ := mem_upd hx
    obtain ⟨z, hz, rfl⟩ := mem_upd hx'
    rw [upd_i hi, upd_i hi] at e ⊢
    exact h.inj y hy z hz e
  · left
    rcases hj with h1 | h1 | h1 | h1 | h1 | ⟨x, hx, h1⟩ | h1
    · exact Or.inl h1
    · exact Or.inr (Or.inl h1)
    · exact Or.inr (Or.inr (Or.inl h1))
    · exact Or.inr (Or.inr (Or.inr (Or.inl h1)))
    · exact Or.inr (Or.inr (Or.inr (Or.inr (Or.inl h1))))
    · obtain ⟨y, hy, rfl⟩ := mem_upd hx
      rw [upd_i hi] at h1
      exact Or.inr (Or.inr (Or.inr (Or.inr (Or.inr (Or.inl ⟨y, hy, h1⟩)))))
    · exact Or.inr (Or.inr (Or.inr (Or.inr (Or.inr (Or.inr h1)))))

/-- What is lit turned. -/
theorem IsI.setLt (h : IsI w p S) {w' : World} {f : Int → Option Int} (fr : Fr (at' p.l) w w') (hm : ML w' p.l f) : Chg w p S w' p { S with lt := f } :=
  ⟨⟨h.row.keep fr (fun e => h.nb.2.2.1 e), h.mt.keep fr (fun e => h.mm.2.1 e), h.mq.keep fr (fun e => h.mm.2.2.2.1 e), hm, h.mb.keep fr (fun e => h.mm.2.2.2.2.2 (Eq.symm e)), fun n hn => (h.tk n hn).keep fr (fun e => (h.nB hn).2.2.2.1 e), h.inj, fun s o => (h.qu s o).keep (fun _ e hl => fr.block _ hl (fun e' => (h.nz e).2.2.2.1 e')) (fun _ _ => rfl), h.apt, h.mm, h.gl⟩, fr.mono (fun _ _ e => Or.inr (Or.inr (Or.inr (Or.inl e)))), fun _ hk => Or.inl hk, rfl, fun _ _ => rfl, fun _ h => h⟩
/-- What is bound turned. -/
theorem IsI.setBd (h : IsI w p S) {w' : World} {f : Int → Option Int} (fr : Fr (at' p.d) w w') (hm : MB w' p.d (fun n => (f n).map p.B)) : Chg w p S w' p { S with bd := f } :=
  ⟨⟨h.row.keep fr (fun e => h.nb.2.2.2 e), h.mt.keep fr (fun e => h.mm.2.2.1 e), h.mq.keep fr (fun e => h.mm.2.2.2.2.1 e), h.ml.keep fr (fun e => h.mm.2.2.2.2.2 e), hm, fun n hn => (h.tk n hn).keep fr (fun e => (h.nB hn).2.2.2.2 e), h.inj, fun s o => (h.qu s o).keep (fun _ e hl => fr.block _ hl (fun e' => (h.nz e).2.2.2.2.1 e')) (fun _ _ => rfl), h.apt, h.mm, h.gl⟩, fr.mono (fun _ _ e => Or.inr (Or.inr (Or.inr (Or.inr (Or.inl e))))), fun _ hk => Or.inl hk, rfl, fun _ _ => rfl, fun _ h => h⟩

def uV (V : Int → Int → Option Qs) (s o : Int) (v : Option Qs) : Int → Int → Option Qs := fun a b => if a = s ∧ b = o then v else V a b
/-- One queue turned: its row, and the map. -/
theorem IsI.setQ' (h : IsI w p S) {s o : Int} {w2 : World} {v : Option Qs} {f : List Int → List Int} (f3 : Fr (fun k => (∃ z, p.V s o = some z ∧ k = z.g) ∨ k = p.q) w w2) (hq : QR w2 p.B v (f (S.q s o))) (hv : ∀ z, v = some z → (∃ z', p.V s o = some z' ∧ z.g = z'.g) ∨ w.heap.size ≤ z.g) (hm : MQ w2 p.q (uV p.V s o v)) :
    Chg w p S w2 { p with V := uV p.V s o v } { S with q := uq S.q s o f } := by
  have K : ∀ k, (∀ z, p.V s o = some z → k ≠ z.g) → k ≠ p.q → ¬ ((∃ z, p.V s o = some z ∧ k = z.g) ∨ k = p.q) := fun k h1 h2 h3 => by
    rcases h3 with ⟨z, e, e'⟩ | e
    · exact h1 z e e'
    · exact h2 e
  refine ⟨⟨h.row.keep f3 (K _ (fun z e e' => (h.nz e).1 e'.symm) h.nb.2.1), h.mt.keep f3 (K _ (fun z e e' => (h.nz e).2.1 e'.symm) h.mm.1), hm, h.ml.keep f3 (K _ (fun z e e' => (h.nz e).2.2.2.1 e'.symm) (fun e => h.mm.2.2.2.1 e.symm)), h.mb.keep f3 (K _ (fun z e e' => (h.nz e).2.2.2.2.1 e'.symm) (fun e => h.mm.2.2.2.2.1 e.symm)), fun n hn => (h.tk n hn).keep f3 (K _ (fun z e e' => (h.nz e).2.2.2.2.2 n hn e'.symm) (h.nB hn).2.2.1), h.inj, fun a b => ?_, fun a b z a' b' z' e e' ez => ?_, h.mm, h.gl⟩, f3.mono (fun k _ e => ?_), fun k hk => ?_, rfl, fun _ _ => rfl, fun _ h => h⟩
  · show QR w2 p.B (uV p.V s o v a b) (uq S.q s o f a b)
    unfold uV uq
    by_cases e : a = s ∧ b = o
    · rw [if_pos e, if_pos e]
      rw [e.1, e.2]
      exact hq
    · rw [if_neg e, if_neg e]
      refine (h.qu a b).keep (fun z ez hl => f3.block _ hl (K _ (fun z' e' e2 => e (h.apt a b z s o z' ez e' e2)) (h.nz ez).2.2.1)) (fun _ _ => rfl)
  · have e1 : uV p.V s o v a b = some z := e
    have e2 : uV p.V s o v a' b' = some z' := e'
    unfold uV at e1 e2
    by_cases g1 : a = s ∧ b = o
    · by_cases g2 : a' = s ∧ b' = o
      · exact ⟨g1.1.trans g2.1.symm, g1.2.trans g2.2.symm⟩
      · rw [if_pos g1] at e1
        rw [if_neg g2] at e2
        rcases hv z e1 with ⟨z2, h1, h2⟩ | h1
        · obtain ⟨r1, r2⟩ := h.apt a' b' z' s o z2 e2 h1 (by omega)
          exact absurd ⟨r1, r2⟩ g2
        · have := h.lt z'.g (Or.inr (Or.inr (Or.inr (Or.inr (Or.inr (Or.inr ⟨a', b', z', e2, rfl⟩))))))
          omega
    · rw [if_neg g1] at e1
      by_cases g2 : a' = s ∧ b' = o
      · rw [if_pos g2] at e2
        rcases hv z' e2 with ⟨z2, h1, h2⟩ | h1
        · obtain ⟨r1, r2⟩ := h.apt a b z s o z2 e1 h1 (by omega)
          exact absurd ⟨r1, r2⟩ g1
        · have := h.lt z.g (Or.inr (Or.inr (Or.inr (Or.inr (Or.inr (Or.inr ⟨a, b, z, e1, rfl⟩))))))
          omega
      · rw [if_neg g2] at e2
        exact h.apt a b z a' b' z' e1 e2 ez
  · rcases e with ⟨z, e1, e2⟩ | e1
    · exact Or.inr (Or.inr (Or.inr (Or.inr (Or.inr (Or.inr ⟨s, o, z, e1, e2⟩)))))
    · exact Or.inr (Or.inr (Or.inl e1))
  · rcases hk with h1 | h1 | h1 | h1 | h1 | h1 | ⟨a, b, z, h1, h2⟩
    · exact Or.inl (Or.inl h1)
    · exact Or.inl (Or.inr (Or.inl h1))
    · exact Or.inl (Or.inr (Or.inr (Or.inl h1)))
    · exact Or.inl (Or.inr (Or.inr (Or.inr (Or.inl h1))))
    · exact Or.inl (Or.inr (Or.inr (Or.inr (Or.inr (Or.inl h1)))))
    · exact Or.inl (Or.inr (Or.inr (Or.inr (Or.inr (Or.inr (Or.inl h1))))))
    · have h1' : uV p.V s o v a b = some z := h1
      unfold uV at h1'
      by_cases g1 : a = s ∧ b = o
      · rw [if_pos g1] at h1'
        rcases hv z h1' with ⟨z2, r1, r2⟩ | r1
        · exact Or.inl (Or.inr (Or.inr (Or.inr (Or.inr (Or.inr (Or.inr ⟨s, o, z2, r1, by omega⟩))))))
        · exact Or.inr (by omega)
      · rw [if_neg g1] at h1'
        exact Or.inl (Or.inr (Or.inr (Or.inr (Or.inr (Or.inr (Or.inr ⟨a, b, z, h1', h2⟩))))))

def updB (B : Int → Nat) (i : Int) (g : Nat) : Int → Nat := fun j => if j = i then g else B j
/-- One thread more: laid in block g, the map turned. -/
theorem IsI.add {w1 w2 : World} (h : IsI w p S) (ok : Ok S) {i : Int} (hi : numB i = true) (hf : fnd S.L i = none) {g : Nat} (hg : w.heap.size ≤ g) (f1 : Fr none' w w1) (hs : ThR w1 g (newTh i)) (f2 : Fr (at' p.m) w1 w2)
    (hm : MP w2 p.m (S.L.length + 1) (fun j => if i = j then some g else mapF p S.L j)) : Chg w p S w2 { p with B := updB p.B i g } { S with L := S.L ++ [newTh i] } := by
  have nm : ∀ m ∈ S.L, m.i ≠ i := fun m hm e => fnd_none hf m hm (by rw [e])
  have hB' : ∀ x, x ≠ i → updB p.B i g x = p.B x := fun x hx => by unfold updB; rw [if_neg hx]
  have hB : ∀ m ∈ S.L, updB p.B i g m.i = p.B m.i := fun m hm => hB' _ (nm m hm)
  have hN : updB p.B i g i = g := by unfold updB; rw [if_pos rfl]
  have hlt := fun k hk => h.lt k hk
  have h1 := h.keep0 f1
  have me : ∀ x, x ∈ S.L ++ [newTh i] ↔ x ∈ S.L ∨ x = newTh i := fun x => by simp
  have hml := hlt p.m (Or.inr (Or.inl rfl))
  refine ⟨⟨h1.row.keep f2 (fun e => h.nb.1 e), ?_, h1.mq.keep f2 (fun e => h.mm.1 (Eq.symm e)), h1.ml.keep f2 (fun e => h.mm.2.1 (Eq.symm e)), (h1.mb.keep f2 (fun e => h.mm.2.2.1 (Eq.symm e))).congr fun n => ?_, fun m hm' => ?_, fun m hm' m' hm'' e => ?_, fun s o => (h1.qu s o).keep (fun z e hl => f2.block _ hl (fun e' => (h1.nz e).2.1 e')) (fun x hx => ?_), h.apt, h.mm, good_new h.gl hi hf⟩, ?_, fun k hk => ?_, rfl, fun x hx => ?_, fun x hx => ?_⟩
  · show MP w2 p.m (S.L ++ [newTh i]).length _
    rw [List.length_append]
    refine MP.congr hm fun k => ?_
    unfold mapF
    show _ = (fnd (S.L ++ [newTh i]) k).map _
    rw [fnd_append]
    by_cases e : i = k
    · subst e
      rw [if_pos rfl, hf]
      show some g = (fnd [newTh i] i).map _
      have : fnd [newTh i] i = some (newTh i) := by simp [fnd, newTh]
      rw [this]
      show some g = some (updB p.B i g i)
      rw [hN]
    · rw [if_neg e]
      cases hk : fnd S.L k with
      | none =>
        have : fnd [newTh i] k = none := by simp [fnd, newTh, e]
        simp only [this]
        rfl
      | some x =>
        show some (p.B x.i) = some (updB p.B i g x.i)
        rw [hB x (fnd_mem hk).1]
  · show (S.bd n).map p.B = (S.bd n).map (updB p.B i g)
    cases e : S.bd n with
    | none => rfl
    | some x =>
      show some (p.B x) = some (updB p.B i g x)
      obtain ⟨t, ht, _⟩ := (ok.bd n x).1 e
      rw [hB' x (fun ex => by rw [ex, hf] at ht; cases ht)]
  · show ThR w2 (updB p.B i g m.i) _
    rcases (me m).1 hm' with q | rfl
    · rw [hB m q]
      exact (h1.tk m q).keep f2 (fun e => (h.nB q).2.1 e)
    · rw [show (newTh i).i = i from rfl, hN]
      refine hs.keep f2 (fun e => ?_)
      have e' : g = p.m := e
      omega
  · have e' : updB p.B i g m.i = updB p.B i g m'.i := e
    rcases (me m).1 hm' with q1 | q1
    · rcases (me m').1 hm'' with q2 | q2
      · rw [hB m q1, hB m' q2] at e'
        exact h.inj m q1 m' q2 e'
      · rw [q2, show (newTh i).i = i from rfl, hN, hB m q1] at e'
        have := hlt _ (Or.inr (Or.inr (Or.inr (Or.inr (Or.inr (Or.inl ⟨m, q1, rfl⟩))))))
        omega
    · rcases (me m').1 hm'' with q2 | q2
      · rw [q1, show (newTh i).i = i from rfl, hN, hB m' q2] at e'
        have := hlt _ (Or.inr (Or.inr (Or.inr (Or.inr (Or.inr (Or.inl ⟨m', q2, rfl⟩))))))
        omega
      · rw [q1, q2]
  · obtain ⟨t, ht, _⟩ := (ok.mem s o x).1 hx
    exact hB' x (fun ex => by rw [ex, hf] at ht; cases ht)
  · exact (f1.mono (fun _ _ h => h.elim)).trans (f2.mono (fun k _ e => Or.inr (Or.inl e)))
  · rcases hk with h1 | h1 | h1 | h1 | h1 | ⟨m, hm', h1⟩ | h1
    · exact Or.inl (Or.inl h1)
    · exact Or.inl (Or.inr (Or.inl h1))
    · exact Or.inl (Or.inr (Or.inr (Or.inl h1)))
    · exact Or.inl (Or.inr (Or.inr (Or.inr (Or.inl h1))))
    · exact Or.inl (Or.inr (Or.inr (Or.inr (Or.inr (Or.inl h1)))))
    · have h1' : k = updB p.B i g m.i := h1
      rcases (me m).1 hm' with q | q
      · rw [hB m q] at h1'
        exact Or.inl (Or.inr (Or.inr (Or.inr (Or.inr (Or.inr (Or.inl ⟨m, q, h1'⟩))))))
      · rw [q, show (newTh i).i = i from rfl, hN] at h1'
        exact Or.inr (by omega)
    · exact Or.inl (Or.inr (Or.inr (Or.inr (Or.inr (Or.inr (Or.inr h1))))))
  · exact hB' x (fun ex => by rw [ex, hf] at hx; cases hx)
  · show (fnd (S.L ++ [newTh i]) x).isSome = true
    rw [fnd_append]
    cases e : fnd S.L x with
    | none => rw [e] at hx; cases hx
    | some y => rfl

theorem IsI.look (h : IsI w p S) {k : Int} {t : Th} (hf : fnd S.L k = some t) : ThR w (p.B k) t := by
  have := h.tk t (fnd_mem hf).1
  rw [(fnd_mem hf).2] at this
  exact this
end
theorem map_none {p : Pb} {L : List Th} {k : Int} (h : fnd L k = none) : mapF p L k = none := by unfold mapF; rw [h]; rfl
theorem map_some {p : Pb} {L : List Th} {k : Int} {n : Th} (h : fnd L k = some n) : mapF p L k = some (p.B k) := by unfold mapF; rw [h]; show some (p.B n.i) = _; rw [(fnd_mem h).2]

end Go.Proofs.Ytjobdfkfongjaaa
