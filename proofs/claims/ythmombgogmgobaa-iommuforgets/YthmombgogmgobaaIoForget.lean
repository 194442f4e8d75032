/-
  The contracts of package iommu's forget (whatever the test that it is handed), Flush, FlushPage, Attach, Detach over the translation. No statement is proved here.
-/
import Derived.Test.YthmombgogmgobaaIoVal
namespace Go.Proofs.Ythmombgogmgobaa
open Go.RowKit Go.Maps Go.WideMaps

/-! ### what a range that deletes has done so far -/
def iopc (lf : Nat → Bool) (g : Li → Bool) (f : Nat → Option Li) : Nat → Nat
  | 0 => 0
  | k + 1 => iopc lf g f k + if (!lf k && ohit g (f k)) = true then 1 else 0
theorem iopc_le (lf : Nat → Bool) (g : Li → Bool) (f : Nat → Option Li) (n : Nat) : iopc lf g f n ≤ n := by
  induction n with
  | zero => simp [iopc]
  | succ k ih => simp only [iopc]; split <;> omega
theorem iopc_done {lf : Nat → Bool} {g : Li → Bool} {f : Nat → Option Li} (h : ∀ k, lf k = false) (n : Nat) : iopc lf g f n = iocnt g f n := by
  induction n with
  | zero => rfl
  | succ k ih => simp only [iopc, iocnt, ih, h k]; simp
theorem iopc_start {lf : Nat → Bool} {g : Li → Bool} {f : Nat → Option Li} (h : ∀ k, lf k = (f k).isSome) (n : Nat) : iopc lf g f n = 0 := by
  induction n with
  | zero => rfl
  | succ k ih =>
    simp only [iopc, ih, h k]
    cases f k <;> simp [ohit]
theorem iopc_step {lf lf' : Nat → Bool} {g : Li → Bool} {f : Nat → Option Li} {k : Nat} (hk : lf k = true) (h : ∀ j, lf' j = (lf j && !decide (j = k))) (n : Nat) :
    iopc lf' g f n = iopc lf g f n + if k < n ∧ ohit g (f k) = true then 1 else 0 := by
  induction n with
  | zero => simp [iopc]
  | succ n ih =>
    simp only [iopc, ih, h n]
    by_cases e : n = k
    · subst e
      simp [hk]
    · have e1 : (k < n + 1) = (k < n) := by simp; omega
      simp [e1, e]
      omega

theorem same_key (j k : Nat) : (Lit.int .i64 (j : Int)).sameKey (.int .i64 (k : Int)) = decide (j = k) := by
  by_cases e : j = k
  · subst e
    rw [decide_eq_true rfl]
    exact WideAt.sameKey_self trivial
  · rw [decide_eq_false e]
    exact Maps.sameKey_ne (iolit_ne e)

theorem ranges_keep {S : Nat → Prop} {w w' : World} {m r n ct : Nat} {D : DataW Unit} {left : Lit → Bool} (h : w.ranges Try.prog 3 lEl m r n D left ct) (f : Fr S w w') (h1 : ¬ S m) (h2 : ¬ S r) : w'.ranges Try.prog 3 lEl m r n D left ct := by
  obtain ⟨es, clock, since, seen, c0, hb, F, hs, hD, hr, rest⟩ := h
  have lm : m < w.heap.size := by
    rcases Nat.lt_or_ge m w.heap.size with h' | h'
    · exact h'
    · rw [Array.getElem?_eq_none h'] at hb; cases hb
  have lr : r < w.heap.size := by
    rcases Nat.lt_or_ge r w.heap.size with h' | h'
    · exact h'
    · rw [Array.getElem?_eq_none h'] at hr; cases hr
  exact ⟨es, clock, since, seen, c0, (f.block m lm h1).trans hb, F, hs, hD, (f.block r lr h2).trans hr, rest⟩

theorem lnext_is {D : DataW Unit} {f : Nat → Option Li} (M : Ml D f) {kl : Lit} {l : Li} {y : DataW Unit × List MemPlace} (hv : lEl (lVal l) = some y) (hat : ∀ zd, D.atKey kl zd = y.1) : ∃ k : Nat, k < 8 ∧ kl = .int .i64 (k : Int) ∧ f k = some l := by
  obtain ⟨k, hk, rfl⟩ := M.key kl (has_true_of_atKey hat)
  refine ⟨k, hk, rfl, ?_⟩
  have hs := M.has k
  rw [has_true_of_atKey hat] at hs
  cases hf : f k with
  | none => rw [hf] at hs; cases hs
  | some q =>
    have e := M.at' k q hf (ld l0)
    have hv' : y = (ld l, []) := by rw [show lEl (lVal l) = some (ld l, []) from rfl] at hv; exact (Option.some.inj hv).symm
    rw [hat, hv'] at e
    rw [← ld_inj e]

theorem ioinv_key {key : Value} {kl : Lit} (h : keyOf Try.prog 3 key = some kl) : ∃ x : Int, key = .int .i64 x := by
  obtain ⟨x, rfl, _⟩ := Maps.keyOf_int_inv Try.underlying3 h
  exact ⟨x, rfl⟩
theorem ioinv_el {v : Value} {y : DataW Unit × List MemPlace} (h : lEl v = some y) : ∃ c : Li, v = lVal c := by
  obtain ⟨l, rfl, _⟩ := lEl_inv h
  exact ⟨l, rfl⟩

/-- The step of a range over a map of lines. -/
theorem wpList_next_l {w : World} {ops : Array Oper} {rest : List Oper} {o : Oper} {a : Act} {Q : Exit → Act → World → Prop} (hg : o.guard = none) (it : Operand) (hop : o.op = Op.next it false) (b r : Nat) (D : DataW Unit) (f : Nat → Option Li) (M : Ml D f) (left : Lit → Bool) (ct : Nat)
    (hit : a.eval it = .pointer (some ⟨r, 0, none⟩)) (h : w.ranges Try.prog 3 lEl b r 8 D left ct)
    (hDone : (∀ kl, left kl = false) → wpList Try.prog ops Q rest (a.put o.dst (.tuple #[.bool false])) w)
    (hMore : ∀ (k : Nat) (l : Li) (w' : World) (ct' : Nat), k < 8 → f k = some l → left (.int .i64 (k : Int)) = true → w'.ranges Try.prog 3 lEl b r 8 D (fun z => left z && !z.sameKey (.int .i64 (k : Int))) ct' → ct' < ct → w.grownBy w' (some r) →
      (Instr.entry (.pointer (some ⟨r, 0, none⟩))).run Try.prog w' = .ok (.tuple #[.int .i64 (k : Int), .agg #[.int .i64 l.s, .int .i64 l.p, .int .i64 l.f, .int .i64 l.r]]) w' → wpList Try.prog ops Q rest (a.put o.dst (.tuple #[.bool true, .int .i64 (k : Int), .agg #[.int .i64 l.s, .int .i64 l.p, .int .i64 l.f, .int .i64 l.r]])) w') :
    wpList Try.prog ops Q (o :: rest) a w :=
  wpList_next_ranges w hg it hop 3 iolaw3 lEl (Value.int .i64) lVal (fun _ _ hk => ioinv_key hk) (fun _ _ hv => ioinv_el hv) b r 8 D left ct hit h (fun _ hl => hDone hl)
    (fun x c kl y w' ct' hkey hlk hv hat hrg hlt hgr hsz hen => by
      obtain ⟨k, hk, rfl, hf⟩ := lnext_is M hv hat
      obtain ⟨x', ex, e, _⟩ := Maps.keyOf_int_inv Try.underlying3 hkey
      cases ex
      cases e
      exact hMore k c w' ct' hk hf hlk hrg hlt hgr hen)

/-- What is asked of a test: in every world that differs in the map alone it answers g, and turns nothing. -/
def IoTests (fn : Nat) (caps : Array Value) (g : Li → Bool) (m : Nat) (w : World) : Prop :=
  (∀ (args : Array Value) (w1 : World), (callFunc fn args).run Try.prog w1 = .ok (.enter fn args) w1) ∧
  ∀ (w1 : World) (l : Li), Fr (at' m) w w1 → Calls Try.prog fn (#[.agg #[.int .i64 l.s, .int .i64 l.p, .int .i64 l.f, .int .i64 l.r]] ++ caps) w1 fun e w2 => e = .returned (.bool (g l)) ∧ Fr none' w1 w2

/-- What stands in the round: the map so far, and how many have gone. -/
structure Fgt (w wr : World) (m r : Nat) (f0 : Nat → Option Li) (g : Li → Bool) (D : DataW Unit) (f : Nat → Option Li) (left : Lit → Bool) (ct : Nat) : Prop where
  rg : wr.ranges Try.prog 3 lEl m r 8 D left ct
  ml : Ml D f
  fr : Fr (at' m) w wr
  le : ∀ k : Nat, left (.int .i64 (k : Int)) = true → f k = f0 k
  go : ∀ k : Nat, left (.int .i64 (k : Int)) = false → f k = iowipe g f0 k

set_option maxHeartbeats 4000000 in
theorem ioforget_any (w : World) (b m : Nat) (v : Value) (S : Io) (h : IoAt w b m v S) (fn : Nat) (caps : Array Value) (g : Li → Bool) (hg : IoTests fn caps g m w) :
    Calls Try.prog 54 #[.pointer (some ⟨b, 0, none⟩), .func (.func fn) #[] caps] w fun e w' =>
      e = .returned (.int .i64 ((iocnt g S.ln 8 : Nat) : Int)) ∧ Fr (at' m) w w' ∧ IoAt w' b m v (flushS S g) := by
  have hen := hg.1
  obtain ⟨c0, c1, c2⟩ := h.cells
  obtain ⟨D0, hown, M0⟩ := h.ln
  have HH : Hid (IoAt w b m v S) := h
  have HG : Hid (IoTests fn caps g m w) := hg
  have HM0 : Hid (Ml D0 S.ln) := M0
  have hml := h.ln.lt
  have nbm := h.n1
  have hbl := h.lt b (Or.inl rfl)
  have HN : Hid (m < w.heap.size ∧ b < w.heap.size ∧ b ≠ m) := ⟨hml, hbl, nbm⟩
  clear h hg M0 c1 c2 hml nbm hbl
  go_enter Try.func54, Try.ntmps54
  go_wp2_with (first | (at_range; refine wpList_range_own _ rfl _ 87 rfl 3 112 iolaw3 Try.underlying87 _ m 8 D0 rfl hown ?_; intro w0 hrg0 hg0 hs0))
  go_frame
  have f0 := io_fr0 hg0
  go_loopw [5] (fun n wr => ∃ (left : Lit → Bool) (ct : Nat) (D : DataW Unit) (f : Nat → Option Li) (x : Nat), Fgt w wr m w.heap.size S.ln g D f left ct ∧ x = iopc (fun k => left (.int .i64 (k : Int))) g S.ln 8 ∧ n = .int .i64 (x : Int)) (fun _ wr => wr.rangeLeft m w.heap.size)
  case atStart =>
    refine ⟨_, _, D0, S.ln, 0, ⟨hrg0, HM0.out, f0.mono (fun _ _ h => h.elim), fun _ _ => rfl, fun k hk => ?_⟩, ?_, rfl⟩
    · have e := HM0.out.has k
      rw [hk] at e
      unfold iowipe
      cases hf : S.ln k with
      | none => rfl
      | some q => rw [hf] at e; cases e
    · rw [iopc_start (fun k => HM0.out.has k)]
  case round =>
    clear hrg0 hg0 hs0 f0 hown c0
    obtain ⟨left, ct, D, f, x, hF, hx, rfl⟩ := hrel
    have HX : Hid (x = iopc (fun k => left (.int .i64 (k : Int))) g S.ln 8) := hx
    have hx8 : x ≤ 8 := by rw [hx]; exact iopc_le _ _ _ _
    clear hx
    have HF : Hid (Fgt w wr m w.heap.size S.ln g D f left ct) := hF
    have hrg := hF.rg
    clear hF
    go_wp2_with (first | (at_next; refine wpList_next_l rfl _ rfl m w.heap.size D f HF.out.ml left ct rfl hrg (fun hl => ?_) (fun k l w1 ct1 hk hf hlk hrg1 hlt hgr hen1 => ?_)))
    · have HD : x = iocnt g S.ln 8 := HX.out.trans (iopc_done (fun k => hl _) 8)
      have hff : f = iowipe g S.ln := funext fun k => HF.out.go k (hl _)
      have hlm : LM wr m (iowipe g S.ln) := ⟨D, HF.out.rg.owns, by rw [← hff]; exact HF.out.ml⟩
      go_ret
      exact ⟨by rw [HD]; rfl, HF.out.fr, HH.out.setLn hlm HF.out.fr (HH.out.ok.wipe g)⟩
    · have F1 : Fr (at' m) w (w1.alloc (.cells #[.int .i64 l.s, .int .i64 l.p, .int .i64 l.f, .int .i64 l.r] 112)) := (HF.out.fr.newerS (io_frmap hgr) (Nat.le_refl _)).alloc _
      have ra := hrg1.alloc (.cells #[.int .i64 l.s, .int .i64 l.p, .int .i64 l.f, .int .i64 l.r] 112)
      refine (HG.out.2 _ l F1).mono ?_
      rintro e w2 ⟨rfl, f2⟩
      replace ra := ranges_keep ra f2 (fun h => h) (fun h => h)
      replace F1 := F1.trans (f2.mono (fun _ _ h => h.elim))
      have h0k : S.ln k = some l := (HF.out.le k hlk).symm.trans hf
      clear f2 hrg1 hen1 hgr hrg
      have HLF : Hid (∀ j : Nat, (left (.int .i64 (j : Int)) && !(Lit.int .i64 (j : Int)).sameKey (.int .i64 (k : Int))) = (left (.int .i64 (j : Int)) && !decide (j = k))) := fun j => by rw [same_key]
      have HCT : Hid (ct1 < ct ∧ S.ln k = some l ∧ f k = some l ∧ left (.int .i64 (k : Int)) = true) := ⟨hlt, h0k, hf, hlk⟩
      clear hlt h0k hf hlk
      have HRA : Hid (w2.ranges Try.prog 3 lEl m w.heap.size 8 D (fun z => left z && !z.sameKey (.int .i64 (k : Int))) ct1) := ra
      have HF1 : Hid (Fr (at' m) w w2) := F1
      cases hh : g l with
      | false =>
        have hpc := iopc_step (lf := fun k => left (.int .i64 (k : Int))) (g := g) (f := S.ln) HCT.out.2.2.2 HLF.out 8
        rw [HCT.out.2.1] at hpc
        have HP : Hid (x = iopc (fun j => left (.int .i64 (j : Int)) && !(Lit.int .i64 (j : Int)).sameKey (.int .i64 (k : Int))) g S.ln 8) := (show _ = _ from by rw [hpc, HX.out]; simp [ohit, hh])
        clear hpc ra F1
        go_wp2_with fail
        go_roundw
        case rel =>
          refine ⟨_, ct1, D, f, x, ⟨HRA.out, HF.out.ml, HF1.out, fun j hj => ?_, fun j hj => ?_⟩, HP.out, rfl⟩
          · have hj' : (left (.int .i64 (j : Int)) && !(Lit.int .i64 (j : Int)).sameKey (.int .i64 (k : Int))) = true := hj
            rw [HLF.out] at hj'
            exact HF.out.le j (by revert hj'; cases left (.int .i64 (j : Int)) <;> simp)
          · have hj' : (left (.int .i64 (j : Int)) && !(Lit.int .i64 (j : Int)).sameKey (.int .i64 (k : Int))) = false := hj
            rw [HLF.out] at hj'
            cases hl : left (.int .i64 (j : Int)) with
            | false => exact HF.out.go j hl
            | true =>
              have e : j = k := by rw [hl] at hj'; simpa using hj'
              subst e
              unfold iowipe
              rw [HCT.out.2.2.1, HCT.out.2.1]
              simp [ohit, hh]
        case measure => rw [HRA.out.left_eq, HF.out.rg.left_eq]; exact HCT.out.1
      | true =>
        have hpc := iopc_step (lf := fun k => left (.int .i64 (k : Int))) (g := g) (f := S.ln) HCT.out.2.2.2 HLF.out 8
        rw [HCT.out.2.1] at hpc
        obtain ⟨w3, ct3, hrun0, hrg3, hle3, hturn⟩ := ra.drop iolaw3 Try.underlying87 (iokey3 hk) 0
        have hrun : ∀ ty, (Builtin.delete_ #[87, 3] ty #[.map (some m), .int .i64 (k : Int)]).run Try.prog w2 = .ok (.tuple #[]) w3 := fun ty => by rw [← hrun0]; rfl
        have c0 := cell_keep F1 HH.out.cells.1 HN.out.2.2
        have HP : Hid (x + 1 = iopc (fun j => (left (.int .i64 (j : Int)) && !(Lit.int .i64 (j : Int)).sameKey (.int .i64 (k : Int))) && !(Lit.int .i64 (j : Int)).sameKey (.int .i64 (k : Int))) g S.ln 8) := (show _ = _ from by
          rw [show (fun j : Nat => (left (.int .i64 (j : Int)) && !(Lit.int .i64 (j : Int)).sameKey (.int .i64 (k : Int))) && !(Lit.int .i64 (j : Int)).sameKey (.int .i64 (k : Int))) = (fun j : Nat => left (.int .i64 (j : Int)) && !(Lit.int .i64 (j : Int)).sameKey (.int .i64 (k : Int))) from funext fun j => by simp]
          rw [hpc, HX.out]; simp [ohit, hh, hk])
        have HR3 : Hid (w3.ranges Try.prog 3 lEl m w.heap.size 8 (D.del (.int .i64 (k : Int))) (fun z => (left z && !z.sameKey (.int .i64 (k : Int))) && !z.sameKey (.int .i64 (k : Int))) ct3) := hrg3
        have HF3 : Hid (Fr (at' m) w w3) := (show Fr _ _ _ from F1.trans (io_frmap hturn.grown))
        have HC3 : Hid (ct3 ≤ ct1) := hle3
        clear hpc ra F1 hrun0 hrg3 hle3 hturn
        go_wp2_with fail
        go_roundw
        case rel =>
          refine ⟨_, ct3, _, ioset f k none, x + 1, ⟨HR3.out, ml_del HF.out.ml hk, HF3.out, fun j hj => ?_, fun j hj => ?_⟩, HP.out, by go_num⟩
          · have hj' : ((left (.int .i64 (j : Int)) && !(Lit.int .i64 (j : Int)).sameKey (.int .i64 (k : Int))) && !(Lit.int .i64 (j : Int)).sameKey (.int .i64 (k : Int))) = true := hj
            rw [HLF.out, same_key] at hj'
            have e : j ≠ k := by intro e; simp [e] at hj'
            rw [ioset_other _ _ e]
            exact HF.out.le j (by revert hj'; cases left (.int .i64 (j : Int)) <;> simp)
          · have hj' : ((left (.int .i64 (j : Int)) && !(Lit.int .i64 (j : Int)).sameKey (.int .i64 (k : Int))) && !(Lit.int .i64 (j : Int)).sameKey (.int .i64 (k : Int))) = false := hj
            rw [HLF.out, same_key] at hj'
            by_cases e : j = k
            · subst e
              rw [ioset_same]
              unfold iowipe
              rw [HCT.out.2.1]
              simp [ohit, hh]
            · rw [ioset_other _ _ e]
              exact HF.out.go j (by revert hj'; cases left (.int .i64 (j : Int)) <;> simp [e])
        case measure => rw [HR3.out.left_eq, HF.out.rg.left_eq]; exact Nat.lt_of_le_of_lt HC3.out HCT.out.1

end Go.Proofs.Ythmombgogmgobaa
