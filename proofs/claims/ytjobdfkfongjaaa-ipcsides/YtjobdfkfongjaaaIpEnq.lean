/-
  A thread enters a queue: append to a slice of pointers in a map, over the translation. No statement is proved here.
-/
import Derived.Test.YtjobdfkfongjaaaIpPlc
import Derived.Maps.AppendAt
import Derived.Deep.RegionLaw
namespace Go.Proofs.Ytjobdfkfongjaaa
open Go.RowKit Go.Maps Go.WideMaps

theorem step_append_run {ops : Array Oper} {o : Oper} {a : Act} {w : World} {K : Act → World → Prop} {Q : Exit → Act → World → Prop} {E : Prop} (hgd : o.guard = none) (s x : Operand) (t : TypeId)
    (ho : o.op = .call { callee := .builtin .append, args := #[s, x], argTypes := #[t, t] }) (vs vx v' : Value) (w' : World) (hs : a.eval s = vs) (hx : a.eval x = vx)
    (hrun : (Builtin.append_ #[t, t] o.type #[vs, vx]).run Try.prog w = .ok v' w') (hK : K (a.put o.dst v') w') :
    if Region.wanted o (yielded ops a.tmps) = true then Oper.wp Try.prog o a w K Q else E := by
  have hw : Region.wanted o (yielded ops a.tmps) = true := by simp [Region.wanted, hgd]
  rw [if_pos hw]
  unfold Oper.wp
  simp [execOp, ho, resolve, invoke, builtin, hs, hx, hrun, Result.andThen]
  exact hK

/-- The same, its equation ahead: what does not fit fails at once. -/
theorem step_append_eq {ops : Array Oper} {o : Oper} {a : Act} {w W : World} {K : Act → World → Prop} {Q : Exit → Act → World → Prop} {E : Prop} {vs vx v' : Value} {w' : World} {t : TypeId}
    (hrun : (Builtin.append_ #[t, t] t #[vs, vx]).run Try.prog W = .ok v' w') (hw : w = W) (s x : Operand) (hs : a.eval s = vs) (hx : a.eval x = vx) (hgd : o.guard = none) (ht : o.type = t)
    (ho : o.op = .call { callee := .builtin .append, args := #[s, x], argTypes := #[t, t] }) (hK : K (a.put o.dst v') w') :
    if Region.wanted o (yielded ops a.tmps) = true then Oper.wp Try.prog o a w K Q else E := by
  subst hw
  exact step_append_run hgd s x t ho vs vx v' w' hs hx (by rw [ht]; exact hrun) hK

def vP (B : Int → Nat) (l : List Int) : List Value := l.map fun x => pv (B x)
theorem vP_len (B : Int → Nat) (l : List Int) : (vP B l).length = l.length := by simp [vP]
theorem vP_one (B : Int → Nat) (l : List Int) : ∀ v ∈ vP B l, v.oneCell' = true := fun v hv => by
  obtain ⟨x, _, rfl⟩ := List.mem_map.mp hv
  rfl
theorem qr_own {w : World} {B : Int → Nat} {v : Option Qs} {l : List Int} (h : QR w B v l) : w.ownsRow 0 79 1 (qO v) l.length (vP B l) := by
  unfold QR at h
  cases v with
  | none => subst h; exact ⟨rfl, Or.inl ⟨rfl, rfl⟩⟩
  | some z =>
    obtain ⟨g, n, c⟩ := z
    obtain ⟨h1, h2, h3, h4, cs, r, hs, hx⟩ := h
    have h2 : n = l.length := h2
    have hs : cs.size = c := hs
    subst h2
    refine ⟨by rw [vP_len]; omega, Or.inr ⟨g, c, cs, rfl, by omega, r, h3, h4, by rw [hs]; omega, ?_⟩⟩
    apply List.ext_getElem?
    intro j
    unfold vP
    rw [List.getElem?_take, List.getElem?_map]
    by_cases h : j < l.length
    · rw [if_pos (by omega), List.getElem?_eq_getElem h]
      have := hx j l[j] (List.getElem?_eq_getElem h)
      simpa using this
    · rw [if_neg (by omega), List.getElem?_eq_none (by omega)]
      rfl
theorem own_qr {w : World} {B : Int → Nat} {v : Value} {l : List Int} (hl : l ≠ []) (h : w.ownsRow 0 79 1 v l.length (vP B l)) : ∃ z : Qs, v = qV z ∧ QR w B (some z) l := by
  obtain ⟨_, h | ⟨g, cap, cur, hv, _, hg, hc, hm, hs, ht⟩⟩ := h
  · exact absurd (List.length_eq_zero_iff.1 h.2) hl
  · refine ⟨⟨g, l.length, cap⟩, hv, hl, rfl, hc, hm, cur, hg, (by show cur.size = cap; omega), fun j x hj => ?_⟩
    have hj' : j < l.length := by
      rcases Nat.lt_or_ge j l.length with h' | h'
      · exact h'
      · rw [List.getElem?_eq_none h'] at hj; cases hj
    have : (cur.toList.take (l.length * 1))[j]? = some (pv (B x)) := by rw [ht]; unfold vP; rw [List.getElem?_map, hj]; rfl
    rw [List.getElem?_take, if_pos (by omega)] at this
    simpa using this
theorem info_p : (Try.prog.info? 79).map (fun i => (i.zero, i.size, i.bytes)) = some (some (.pointer none), 1, 8) := by kernel_rfl

/-- append(s, t) of a pointer that lies in block gb. -/
theorem append_p (w : World) (B : Int → Nat) (v : Option Qs) (l : List Int) (t : Int) (gb : Nat) (h : QR w B v l) (hl : l.length ≤ 5000) (hb : Row w gb #[pv (B t)] 79) :
    ∃ z w', (Builtin.append_ #[115, 115] 115 #[qO v, .slice (some ⟨gb, 0, none⟩) 1 1]).run Try.prog w = .ok (qV z) w' ∧ Fr (fun k => some k = (qO v).ownBlock) w w' ∧ QR w' B (some z) (l ++ [t]) ∧ (some z.g = (qO v).ownBlock ∨ z.g = w.heap.size) := by
  have hi := info_p
  cases hq : Try.prog.info? 79 with
  | none => simp [hq] at hi
  | some i =>
    rw [hq] at hi
    simp only [Option.map_some, Option.some.injEq, Prod.mk.injEq] at hi
    obtain ⟨hz0, hs, hby⟩ := hi
    obtain ⟨v', w', g1, g2, g3, _, g5⟩ := run_append_own_at (P := Try.prog) (w := w) 0 115 115 79 i _ 1 8 Try.underlying115 hq hz0 hs hby rfl (by omega) (qO v) l.length (vP B l) (qr_own h) ⟨gb, 0, none⟩ 1 1 [pv (B t)] (by simp) (fun j u hu => by
      rw [add_lit', Nat.zero_add, hb.cell]
      match j, hu with
      | 0, hu => simpa using hu
      | j + 1, hu => simp at hu) (fun u hu => by simp at hu; subst hu; rfl) (by simp only [maxLen]; omega) (by omega) (by omega)
    have e1 : vP B l ++ [pv (B t)] = vP B (l ++ [t]) := by simp [vP]
    have e2 : l.length + 1 = (l ++ [t]).length := by simp
    rw [e1, e2] at g2
    obtain ⟨z, rfl, hz⟩ := own_qr (by simp) g2
    refine ⟨z, w', g1, fr_of_grown' g3, hz, ?_⟩
    rcases g5 with g5 | g5
    · exact Or.inl g5
    · exact Or.inr (by simpa [Value.ownBlock] using g5)

theorem qo_block {v : Option Qs} {k : Nat} (h : some k = (qO v).ownBlock) : ∃ z, v = some z ∧ k = z.g := by
  cases v with
  | none => simp [qO, Value.ownBlock] at h
  | some z => exact ⟨z, rfl, by simpa [qO, qV, Value.ownBlock] using h⟩

/-- 'm[k] = append(m[k], th)', in its parts: the entry is taken, the slice of one lies somewhere, append, the entry is written. -/
theorem ent_core (W : World) (p : Pb) (S : Ip) (h : IsI W p S) (s o t : Int) (hk : okK (s, o)) (hl : (S.q s o).length ≤ 5000) :
    ∃ (st : Nat) (W1 : World), (Instr.mapEntry 69 (.map (some p.q)) (plV s o)).run Try.prog W = .ok (.tuple #[qO (p.V s o), goInt st]) W1 ∧
      (∀ gb cs ty, Row W gb cs ty → Row W1 gb cs ty) ∧ W1.heap.size = W.heap.size ∧
      ∀ (W2 : World) (gb : Nat), Fr none' W1 W2 → Row W2 gb #[pv (p.B t)] 79 → ∃ z W3, (Builtin.append_ #[115, 115] 115 #[qO (p.V s o), .slice (some ⟨gb, 0, none⟩) 1 1]).run Try.prog W2 = .ok (qV z) W3 ∧
        ∃ W4, (Instr.entryStore 69 (.map (some p.q)) (goInt st) (qV z)).run Try.prog W3 = .ok () W4 ∧ Chg W p S W4 { p with V := uV p.V s o (some z) } { S with q := uq S.q s o (· ++ [t]) } := by
  obtain ⟨st, W1, g1, f1, g3⟩ := h.mq.entry hk
  have hsz : W1.heap.size = W.heap.size := by
    obtain ⟨K, D, hm, _⟩ := h.mq
    obtain ⟨hs, ho⟩ := okK_64 hk
    obtain ⟨v0, st', o1, r1, _⟩ := entry_own lawP Try.underlying69 zeroQ hm (keyP hs ho)
    rw [g1] at r1
    have := congrArg (fun r : Result Value => match r with | .ok _ w => w.heap.size | .halt _ w => w.heap.size) r1
    simpa [ChangeMaps.setBlock] using this
  refine ⟨st, W1, g1, fun gb cs ty r => r.keep f1 (fun e => h.mq.ne r e.symm), hsz, fun W2 gb f2 hb => ?_⟩
  have hq2 : QR W2 p.B (p.V s o) (S.q s o) := (h.qu s o).keep (fun z e hl => (f2.block _ (by rw [hsz]; exact hl) (fun h => h)).trans (f1.block _ hl (fun e' => (h.nz e).2.2.1 e'))) (fun _ _ => rfl)
  obtain ⟨z, W3, a1, a2, a3, a4⟩ := append_p W2 p.B (p.V s o) (S.q s o) t gb hq2 hl hb
  have hql := h.mq.lt
  have hq3 : W3.heap[p.q]? = W1.heap[p.q]? := (a2.block _ (by have := f2.size; omega) (fun e => by
    obtain ⟨z', e1, e2⟩ := qo_block e
    exact (h.nz e1).2.2.1 e2.symm)).trans (f2.block _ (by omega) (fun h => h))
  obtain ⟨W4, b1, b2, b3⟩ := g3 W3 z hq3
  refine ⟨z, W3, a1, W4, b1, ?_⟩
  -- the world with the queue's row alone turned, then the map
  have fr : Fr (fun k => (∃ z', p.V s o = some z' ∧ k = z'.g) ∨ k = p.q) W W4 := by
    refine (((f1.mono (fun k _ e => Or.inr e)).trans (f2.mono (fun _ _ h => h.elim))).trans (a2.mono (fun k _ e => Or.inl (qo_block e)))).trans (b2.mono (fun k _ e => Or.inr e))
  exact h.setQ' fr (a3.keep (fun z' e hl => b2.block _ hl (fun e' => by
    have e' : z'.g = p.q := e'
    cases e
    rcases a4 with a4 | a4
    · obtain ⟨z2, e1, e2⟩ := qo_block a4
      exact (h.nz e1).2.2.1 (by omega)
    · have := f2.size
      omega)) (fun _ _ => rfl)) (fun z' e => by
    cases e
    rcases a4 with a4 | a4
    · obtain ⟨z2, e1, e2⟩ := qo_block a4
      exact Or.inl ⟨z2, e1, e2⟩
    · exact Or.inr (by have := f2.size; omega)) b3

set_option maxRecDepth 100000 in
set_option maxHeartbeats 2000000 in
theorem enter_any (w : World) (p : Pb) (S : Ip) (h : IsI w p S) (ok : Ok S) (t s o : Int) {u : Th} (hf : fnd S.L t = some u) (hP : okP s o) (hs : s ≠ 0) : Calls Try.prog 62 #[pv p.b, pv (p.B t), plV s o] w fun e w' => ∃ v p', e = .returned v ∧ Chg w p S w' p' (entS S t s o) := by
  have hk : okK (s, o) := by
    unfold okP at hP
    unfold okK
    simp only
    omega
  have f0 := (Fr.refl none' w).alloc (.cells #[.int .i64 s, .int .i64 o] 82)
  have h0 := h.keep0 f0
  have r0 := h0.look hf
  have hlt := (h.look hf).lt
  have c1 := r0.cst
  have c2 := r0.con
  have z1 := r0.frozen 1
  have z2 := r0.frozen 2
  have C1 : Chg (w.alloc (.cells #[.int .i64 s, .int .i64 o] 82)) p S (((w.alloc (.cells #[.int .i64 s, .int .i64 o] 82)).setCell ⟨p.B t, 1, none⟩ (.int .i64 s)).setCell ⟨p.B t, 2, none⟩ (.int .i64 o)) p { S with L := upd S.L t (setP s o) } := h0.setTk hf (f := setP s o) (fun _ => rfl) (fr_set _ _ _ _ (fr_set _ _ _ _ (Fr.refl _ _))) (r0.setP s o)
  have rb : Row (((w.alloc (.cells #[.int .i64 s, .int .i64 o] 82)).setCell ⟨p.B t, 1, none⟩ (.int .i64 s)).setCell ⟨p.B t, 2, none⟩ (.int .i64 o)) w.heap.size #[.int .i64 s, .int .i64 o] 82 := ((row_alloc w _ _).setCell_other (p := ⟨p.B t, 1, none⟩) (by show p.B t ≠ _; omega) _).setCell_other (p := ⟨p.B t, 2, none⟩) (by show p.B t ≠ _; omega) _
  have hne : p.B t ≠ w.heap.size := by omega
  have HW : Hid (∀ W, W = (((w.alloc (.cells #[.int .i64 s, .int .i64 o] 82)).setCell ⟨p.B t, 1, none⟩ (.int .i64 s)).setCell ⟨p.B t, 2, none⟩ (.int .i64 o)) → Chg w p S W p { S with L := upd S.L t (setP s o) } ∧ Row W w.heap.size #[.int .i64 s, .int .i64 o] 82) := fun W e => by
    subst e
    exact ⟨C1.before f0 h, rb⟩
  clear C1 rb h0 r0 hlt
  go_enter Try.func62, Try.ntmps62
  go_wp2_with fail
  generalize hW1 : (((w.alloc (.cells #[.int .i64 s, .int .i64 o] 82)).setCell ⟨p.B t, 1, none⟩ (.int .i64 s)).setCell ⟨p.B t, 2, none⟩ (.int .i64 o)) = W1
  obtain ⟨C1, rb⟩ := HW.out W1 hW1.symm
  clear HW hW1 c1 c2 z1 z2 hne f0
  have i1 := C1.is
  have ld : ∀ W2, Fr none' W1 W2 → W2.cell? ⟨p.b, 1, none⟩ = some (.map (some p.q)) ∧ W2.cell? ⟨w.heap.size, 0, none⟩ = some (.int .i64 s) ∧ W2.cell? ⟨w.heap.size, 1, none⟩ = some (.int .i64 o) := fun W2 f => ⟨(i1.keep0 f).c1, (rb.keep f (fun h => h)).cell 0, (rb.keep f (fun h => h)).cell 1⟩
  have fa := (Fr.refl none' W1).drew
  have fb := ((Fr.refl none' W1).alloc (.cells #[pv (p.B t)] 79)).drew
  obtain ⟨l1, l2, l3⟩ := ld _ (Fr.refl none' W1)
  obtain ⟨m1, m2, m3⟩ := ld _ fb
  have hl : (S.q s o).length ≤ 5000 := by have := ok.len s o; omega
  obtain ⟨stA, wA, gA, kA, sA, hA⟩ := ent_core W1.drew p _ (i1.keep0 fa) s o t hk hl
  obtain ⟨stB, wB, gB, kB, sB, hB⟩ := ent_core (W1.alloc (.cells #[pv (p.B t)] 79)).drew p _ (i1.keep0 fb) s o t hk hl
  obtain ⟨zA, xA, aA, yA, eA, cA⟩ := hA (wA.alloc (.cells #[pv (p.B t)] 79)) wA.heap.size ((Fr.refl _ _).alloc _) (row_alloc _ _ _)
  obtain ⟨zB, xB, aB, yB, eB, cB⟩ := hB wB W1.heap.size (Fr.refl _ _) (kB _ _ _ (row_alloc W1 _ _).drew)
  have HA : Hid (∃ p', Chg w p S yA p' (entS S t s o)) := ⟨_, C1.trans (cA.before fa i1)⟩
  have HB : Hid (∃ p', Chg w p S yB p' (entS S t s o)) := ⟨_, C1.trans (cB.before fb i1)⟩
  obtain ⟨ga, na, ca⟩ := zA
  obtain ⟨gb, nb, cb⟩ := zB
  simp only [qV, goInt] at aA eA aB eB gA gB

  clear cA cB hA hB kA kB ld fa fb i1 C1 rb hk hP hs hf ok h hl sA sB
  generalize qO (p.V s o) = vq at *
  generalize p.B t = gt at *
  generalize p.q = q at *
  generalize hpb : p.b = b at *
  go_region_law (first | (refine step_append_eq aA (by with_reducible rfl) (.tmp 15) (.tmp 17) rfl rfl rfl rfl rfl ?_) | (refine step_append_eq aB (by with_reducible rfl) (.tmp 15) (.tmp 17) rfl rfl rfl rfl rfl ?_))
  all_goals refine post_void rfl rfl fun v => ?_
  all_goals first | exact ⟨v, HA.out.choose, rfl, HA.out.choose_spec⟩ | exact ⟨v, HB.out.choose, rfl, HB.out.choose_spec⟩

end Go.Proofs.Ytjobdfkfongjaaa
