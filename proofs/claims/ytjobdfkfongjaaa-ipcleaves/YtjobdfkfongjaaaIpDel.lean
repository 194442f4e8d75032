/-
  slices.Clone and slices.DeleteFunc at a queue of threads, the latter by the library's own contract. No statement is proved here.
-/
import Derived.Test.YtjobdfkfongjaaaIpEnq
import Derived.Test.YtjobdfkfongjaaaShelf
namespace Go.Proofs.Ytjobdfkfongjaaa
open Go.RowKit Go.Maps Go.WideMaps Go.Sort

theorem wpList_append_runK {P : Program} {w : World} {ops : Array Oper} {rest : List Oper} {o : Oper} {a : Act} {Q : Exit → Act → World → Prop} (hgd : o.guard = none) (s x : Operand) (t : TypeId)
    (ho : o.op = .call { callee := .builtin .append, args := #[s, x], argTypes := #[t, t] }) (vs vx : Value) (hs : a.eval s = vs) (hx : a.eval x = vx) (v' : Value) (w' : World)
    (hrun : (Builtin.append_ #[t, t] o.type #[vs, vx]).run P w = .ok v' w') (h : wpList P ops Q rest (a.put o.dst v') w') : wpList P ops Q (o :: rest) a w := by
  refine wpList_plain hgd fun K hK => ?_
  unfold Oper.wp
  simp [execOp, ho, resolve, invoke, builtin, hs, hx, hrun, Result.andThen]
  exact hK _ _ h

theorem nil_ne (w : World) (a : Addr) (n c : Nat) : (binOp .eql 115 (.slice (some a) n c) (.slice none 0 0)).run Try.prog w = .ok (.bool false) w := by kernel_rfl

set_option maxHeartbeats 1000000 in
theorem clone_p (w : World) (B : Int → Nat) (z : Qs) (l : List Int) (h : QR w B (some z) l) (hl : l.length ≤ 5000) :
    Calls Try.prog 88 #[qV z] w fun e w' => ∃ z', e = .returned (qV z') ∧ Fr none' w w' ∧ QR w' B (some z') l ∧ w.heap.size ≤ z'.g := by
  obtain ⟨h1, h2, h3, h4, cs, r, hs, hx⟩ := h
  have f1 := (Fr.refl none' w).alloc (.cells #[] 79)
  have r1 := row_alloc w #[] 79
  have hr1 := r.keep f1 (fun h => h)
  have hi := info_p
  obtain ⟨z', w', hrun, f2, hq, hg⟩ : ∃ z' w', (Builtin.append_ #[115, 115] 115 #[.slice (some ⟨w.heap.size, 0, none⟩) 0 0, .slice (some ⟨z.g, 0, none⟩) z.n z.c]).run Try.prog (w.alloc (.cells #[] 79)) = .ok (qV z') w' ∧ Fr none' w w' ∧ QR w' B (some z') l ∧ w.heap.size ≤ z'.g := by
    cases hq : Try.prog.info? 79 with
    | none => simp [hq] at hi
    | some i =>
      rw [hq] at hi
      simp only [Option.map_some, Option.some.injEq, Prod.mk.injEq] at hi
      obtain ⟨hz0, hsz, hby⟩ := hi
      have o1 : (w.alloc (.cells #[] 79)).ownsRow 0 79 1 (.slice (some ⟨w.heap.size, 0, none⟩) 0 0) 0 [] := ⟨rfl, Or.inr ⟨w.heap.size, 0, #[], rfl, by omega, r1, by omega, by omega, rfl, rfl⟩⟩
      obtain ⟨v', w', g1, g2, g3, _, g5⟩ := run_append_own_at (P := Try.prog) (w := w.alloc (.cells #[] 79)) 0 115 115 79 i _ 1 8 Try.underlying115 hq hz0 hsz hby rfl (by omega) _ 0 [] o1 ⟨z.g, 0, none⟩ z.n z.c (vP B l) (by rw [vP_len]; omega) (fun j u hu => by
        rw [add_lit', Nat.zero_add, hr1.cell]
        unfold vP at hu
        rw [List.getElem?_map] at hu
        cases hj : l[j]? with
        | none => rw [hj] at hu; cases hu
        | some x => rw [hj] at hu; simp at hu; subst hu; exact hx j x hj) (vP_one B l) (by simp only [maxLen]; omega) (by omega) (by omega)
      rw [Nat.zero_add, List.nil_append, h2] at g2
      obtain ⟨z', rfl, hq'⟩ := own_qr h1 g2
      refine ⟨z', w', by rw [h2] at g1 ⊢; exact g1, f1.newer (b := w.heap.size) ((fr_of_grown' g3).mono (fun k _ e => (by simpa [Value.ownBlock] using e : k = w.heap.size))) (Nat.le_refl _), hq', ?_⟩
      rcases g5 with g5 | g5
      · have : z'.g = w.heap.size := by simpa [Value.ownBlock, qV] using g5
        omega
      · have : z'.g = w.heap.size + 1 := by simpa [Value.ownBlock, qV] using g5
        omega
  have HP : Hid (Fr none' w w' ∧ QR w' B (some z') l ∧ w.heap.size ≤ z'.g) := ⟨f2, hq, hg⟩
  clear f1 r1 hr1 f2 hq hg h1 h2 h3 h4 r hs hx hi hl
  obtain ⟨g, n, c⟩ := z
  have hE := nil_ne
  simp only [qV]
  go_enter Try.func88, Try.ntmps88
  go_wp2_with (at_builtin; refine wpList_append_runK rfl _ _ 115 rfl _ _ rfl rfl _ _ hrun ?_)
  go_ret
  exact ⟨z', rfl, HP.out⟩

/-! ### slices.DeleteFunc -/
theorem enters_lv : ∀ args w, (callFunc 86 args).run Try.prog w = .ok (.enter 86 args) w := enters_of Try.func86 (by kernel_rfl) rfl

/-- Pointers that may stand in a row: nil, or to a block of cells that is not the row. -/
structure Pt (w : World) (blk : Nat) where
  g : Option Nat
  ok : ∀ b, g = some b → b ≠ blk ∧ ∃ cs t, Row w b cs t
def encP {w : World} {blk : Nat} (x : Pt w blk) : Value := match x.g with
  | none => .pointer none
  | some b => pv b

theorem eql_nil (g : Nat) (w : World) : (binOp .eql 79 (.pointer none) (pv g)).run Try.prog w = .ok (.bool false) w := by
  kernel_rfl
theorem equal_ptr {a b : Nat} {w : World} {ca cb : Array Value} {ta tb : TypeId} (ra : Row w a ca ta) (rb : Row w b cb tb) : (Op.equal 79 (pv a) (pv b)).run Try.prog w = .ok (decide (a = b)) w := by
  have hs : (sameAddr ⟨a, 0, none⟩ ⟨b, 0, none⟩).run Try.prog w = .ok (decide (a = b)) w := by
    by_cases e : a = b
    · subst e
      rw [run_sameAddr_same]
      simp
    · rw [run_sameAddr_other w (a := ⟨a, 0, none⟩) (b := ⟨b, 0, none⟩) (fun h => e (congrArg Addr.block h)) ra rb]
      simp [e]
  unfold Op.equal
  show (Op.equalIn (9999 + 1) _ _ _).run Try.prog w = _
  unfold Op.equalIn
  simp [run_underlying Try.underlying79, Result.andThen, hs]
theorem eql_ptr {a b : Nat} {w : World} {ca cb : Array Value} {ta tb : TypeId} (ra : Row w a ca ta) (rb : Row w b cb tb) : (binOp .eql 79 (pv a) (pv b)).run Try.prog w = .ok (.bool (decide (a = b))) w := by
  have := equal_ptr ra rb
  simp [go_sem, binOp, this, Result.andThen]

theorem pred_any (W : World) (v : Option Addr) (g : Nat) (b : Bool) (c : Nat) (hc : W.cell? ⟨c, 0, none⟩ = some (pv g)) (hE : (binOp .eql 79 (.pointer v) (pv g)).run Try.prog W = .ok (.bool b) W) : FnGives Try.prog 86 #[pv c] #[.pointer v] (.bool b) W := by
  show Calls Try.prog 86 #[.pointer v, pv c] W _
  go_enter Try.func86, Try.ntmps86
  go_wp2
  go_ret
  exact ⟨rfl, 0, rfl⟩
/-- At whatever pointer, in whatever world where the blocks lie as they lay. -/
theorem pred_pt {w W : World} {blk : Nat} (x : Pt w blk) (g c : Nat) {cs : Array Value} {ty : TypeId} (hg : g ≠ blk) (rg : Row w g cs ty) (hcb : c ≠ blk) (rc : Row w c #[pv g] 79) (hk : ∀ k, k < w.heap.size → k ≠ blk → W.heap[k]? = w.heap[k]?) :
    FnGives Try.prog 86 #[pv c] #[encP x] (.bool (decide (x.g = some g))) W := by
  have rc' : Row W c #[pv g] 79 := (hk c rc.lt hcb).trans rc
  have rg' : Row W g cs ty := (hk g rg.lt hg).trans rg
  obtain ⟨o, ho⟩ := x
  cases o with
  | none =>
    show FnGives _ _ _ #[.pointer none] (.bool (decide (none = some g))) W
    rw [show decide ((none : Option Nat) = some g) = false from rfl]
    exact pred_any W _ g false c (rc'.cell 0) (eql_nil g W)
  | some b =>
    obtain ⟨hb, cs', ty', rb⟩ := ho b rfl
    have rb' : Row W b cs' ty' := (hk b rb.lt hb).trans rb
    show FnGives _ _ _ #[pv b] (.bool (decide (some b = some g))) W
    have e : decide (some b = some g) = decide (b = g) := by simp
    rw [e]
    exact pred_any W _ g _ c (rc'.cell 0) (eql_ptr rb' rg')

theorem row_putP {w : World} {g : Nat} {cur : Array Value} {t : TypeId} {α : Type} [Inhabited α] (enc : α → Value) (h : Row w g cur t) (d : Array α) (q : Nat) : Row (putRow enc (Sort.ahead w q) g 0 d) g (putCells enc 0 d cur) t := by
  have h' : w.heap[g]? = some (.cells cur t (0, 0)) := h
  show (w.heap.modify g _)[g]? = _
  rw [Array.getElem?_modify, if_pos rfl, h']
  rfl
theorem fr_putP (w : World) (g : Nat) {α : Type} [Inhabited α] (enc : α → Value) (d : Array α) (q : Nat) : Fr (at' g) w (putRow enc (Sort.ahead w q) g 0 d) :=
  ⟨rfl, rfl, rfl, by rw [size_putRow]; exact Nat.le_refl _, fun k _ hn => by
    show (w.heap.modify g _)[k]? = _
    rw [Array.getElem?_modify, if_neg (fun e => hn (Eq.symm e))]⟩

def outT (t : Int) (l : List Int) : List Int := l.filter fun x => !(x == t)

theorem del_p (W : World) (B : Int → Nat) (z : Qs) (l : List Int) (t : Int) (c : Nat) (h : QR W B (some z) l) (hr : ∀ x, x ∈ l ∨ x = t → B x ≠ z.g ∧ ∃ cs ty, Row W (B x) cs ty) (hi : ∀ x ∈ l, B x = B t → x = t) (hc : c ≠ z.g) (rc : Row W c #[pv (B t)] 79) (hl : l.length ≤ 5000) :
    Calls Try.prog 87 #[qV z, .func (.func 86) #[] #[pv c]] W fun e w' => e = .returned (.slice (some ⟨z.g, 0, none⟩) (outT t l).length z.c) ∧ Fr (at' z.g) W w' ∧ (outT t l ≠ [] → QR w' B (some ⟨z.g, (outT t l).length, z.c⟩) (outT t l)) := by
  classical
  letI : Inhabited (Pt W z.g) := ⟨⟨none, fun b e => by cases e⟩⟩
  obtain ⟨h1, h2, h3, h4, cur, r, hs, hx⟩ := h
  obtain ⟨hgb, csg, tyg, rg⟩ := hr t (Or.inr rfl)
  -- the row's pointers
  let mk : Int → Pt W z.g := fun x => if hx : B x ≠ z.g ∧ ∃ cs ty, Row W (B x) cs ty then ⟨some (B x), fun b e => by cases e; exact hx⟩ else ⟨none, fun b e => by cases e⟩
  have mk1 : ∀ x, x ∈ l → (mk x).g = some (B x) := fun x hx => by
    have := hr x (Or.inl hx)
    simp only [mk]
    rw [dif_pos this]
  have mkE : ∀ x, x ∈ l → encP (mk x) = pv (B x) := fun x hx => by
    unfold encP
    rw [mk1 x hx]
  let d : Array (Pt W z.g) := (l.map mk).toArray
  have dsz : d.size = l.length := by simp [d]
  have hH : Holds (encP (w := W) (blk := z.g)) W z.g 0 d := fun j hj => by
    have hj' : j < l.length := by rw [← dsz]; exact hj
    refine ⟨?_, r.frozen _⟩
    rw [Nat.zero_add, r.cell, hx j l[j] (List.getElem?_eq_getElem hj')]
    rw [getElem!_pos d j hj]
    have : d[j] = mk l[j] := by simp [d]
    rw [this, mkE _ (List.getElem_mem hj')]
  have hp : PredAt Try.prog 86 #[pv c] (encP (w := W) (blk := z.g)) (fun x => decide (x.g = some (B t))) W := fun W' x hb => pred_pt x (B t) c hgb rg hc rc (fun k hk _ => hb.block k hk)
  have hpo : PredOver Try.prog 86 #[pv c] (encP (w := W) (blk := z.g)) (fun x => decide (x.g = some (B t))) z.g 0 d.size W := fun n os dk x _ => pred_pt x (B t) c hgb rg hc rc (fun k hk hn => by
    unfold sortWorld
    rw [heap_grow_old _ os (by rw [size_putRow]; exact hk)]
    exact (fr_putP W z.g _ dk n).block k hk (fun e => hn e))
  have hD := AnyE.slices_DeleteFunc Try.delP (encP (w := W) (blk := z.g)) (fun x => by unfold encP; split <;> rfl) (fun x => decide (x.g = some (B t))) 86 #[pv c] enters_lv default (zeroP) z.g 0 z.c d W hp hpo hH (by rw [dsz]; omega) (by rw [dsz]; omega)
  have hf : d.toList.filter (fun x => !decide (x.g = some (B t))) = (outT t l).map mk := by
    show (l.map mk).filter _ = _
    rw [List.filter_map]
    congr 1
    unfold outT
    apply List.filter_congr
    intro x hx
    show (!decide ((mk x).g = some (B t))) = !(x == t)
    rw [mk1 x hx]
    by_cases e : x = t
    · subst e; simp
    · have : B x ≠ B t := fun e' => e (hi x hx e')
      simp [e, this]
  rw [hf] at hD
  rw [dsz, ← h2] at hD
  refine hD.mono ?_
  rintro e w' ⟨rfl, q, rfl⟩
  have hle : (outT t l).length ≤ l.length := List.length_filter_le _ _
  refine ⟨by simp, fr_putP W z.g _ _ q, fun hne => ?_⟩
  have hlen : ((outT t l).map mk ++ List.replicate (z.n - ((outT t l).map mk).length) default).length = l.length := by simp; omega
  refine ⟨hne, rfl, by show (outT t l).length ≤ z.c; omega, h4, _, row_putP encP r _ q, by simpa [putCells] using hs, fun j x hj => ?_⟩
  have hj' : j < (outT t l).length := by
    rcases Nat.lt_or_ge j (outT t l).length with h' | h'
    · exact h'
    · rw [List.getElem?_eq_none h'] at hj; cases hj
  unfold putCells
  rw [Array.getElem?_mapIdx, Array.getElem?_eq_getElem (by omega)]
  simp only [Option.map_some, Option.some.injEq]
  rw [if_pos ⟨by omega, by
    show j < 0 + (((outT t l).map mk ++ List.replicate (z.n - ((outT t l).map mk).length) default).toArray).size
    rw [List.size_toArray, hlen]; omega⟩]
  rw [Nat.sub_zero, getElem!_pos _ j (by rw [List.size_toArray, hlen]; omega)]
  rw [List.getElem_toArray, List.getElem_append_left (by simpa using hj'), List.getElem_map]
  rw [List.getElem?_eq_getElem hj'] at hj
  have hm : (outT t l)[j] ∈ l := (List.mem_filter.1 (List.getElem_mem hj')).1
  rw [mkE _ hm, Option.some.inj hj]

end Go.Proofs.Ytjobdfkfongjaaa
