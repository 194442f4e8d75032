/-
  A queue's changes over the translation: to the end, to the front, out of it; slices.Insert and slices.DeleteFunc by the library's own contracts. No statement is proved here.
-/
import Derived.Test.YtipfgenbfnkpfaaSdRow
import Derived.Test.YtipfgenbfnkpfaaShelf
import Derived.Maps.AppendAt
namespace Go.Proofs.Ytipfgenbfnkpfaa
open Go.RowKit Go.Maps Go.WideMaps Go.Sort

/-- What a change leaves: the queue l', in the same row or in a new one. -/
def QPost (W : World) (v : Value) (l' : List Int) (e : Ending) (w' : World) : Prop := ∃ v', e = .returned v' ∧ Fr (fun k => some k = v.ownBlock) W w' ∧ w'.ownsRow 0 3 1 v' l'.length (vI l') ∧ ∀ k, some k = v'.ownBlock → some k = v.ownBlock ∨ W.heap.size ≤ k

theorem QPost.before {W0 W : World} {v : Value} {l' : List Int} {e : Ending} {w' : World} (f : Fr none' W0 W) (h : QPost W v l' e w') : QPost W0 v l' e w' := by
  obtain ⟨v', h1, h2, h3, h4⟩ := h
  refine ⟨v', h1, (f.mono (fun _ _ h => h.elim)).trans h2, h3, fun k hk => ?_⟩
  rcases h4 k hk with h | h
  · exact Or.inl h
  · have := f.size
    exact Or.inr (by omega)

theorem info_i : (Try.prog.info? 3).map (fun i => (i.zero, i.size, i.bytes)) = some (some (.int .i64 0), 1, 8) := by kernel_rfl

theorem vI_len (l : List Int) : (vI l).length = l.length := by simp [vI]
theorem vI_app (l m : List Int) : vI (l ++ m) = vI l ++ vI m := by simp [vI]
theorem vI_one (l : List Int) : ∀ v ∈ vI l, v.oneCell' = true := fun v hv => by
  obtain ⟨x, _, rfl⟩ := List.mem_map.mp hv
  rfl

/-- append(s, ..) of numbers that lie somewhere. -/
theorem append_q (w : World) (v : Value) (l m : List Int) (a : Addr) (c : Nat) (ho : w.ownsRow 0 3 1 v l.length (vI l)) (hl : l.length + m.length ≤ 100000) (hc : ∀ j u, (vI m)[j]? = some u → w.cell? (a.add j) = some u) :
    ∃ v' w', (Builtin.append_ #[43, 43] 43 #[v, .slice (some a) m.length c]).run Try.prog w = .ok v' w' ∧ Fr (fun k => some k = v.ownBlock) w w' ∧ w'.ownsRow 0 3 1 v' (l ++ m).length (vI (l ++ m)) ∧ (v'.ownBlock = v.ownBlock ∨ v'.ownBlock = some w.heap.size) := by
  have hi := info_i
  cases hq : Try.prog.info? 3 with
  | none => simp [hq] at hi
  | some i =>
    rw [hq] at hi
    simp only [Option.map_some, Option.some.injEq, Prod.mk.injEq] at hi
    obtain ⟨hz0, hs, hby⟩ := hi
    obtain ⟨v', w', g1, g2, g3, _, g5⟩ := run_append_own_at (P := Try.prog) (w := w) 0 43 43 3 i _ 1 8 Try.underlying43 hq hz0 hs hby rfl (by omega) v l.length (vI l) ho a m.length c (vI m) (by rw [vI_len]; omega) hc (vI_one m) (by simp only [maxLen]; omega) (by omega) (by omega)
    refine ⟨v', w', g1, fr_of_grown' g3, ?_, g5⟩
    rw [List.length_append, vI_app]
    exact g2

theorem wpList_append_runK {P : Program} {w : World} {ops : Array Oper} {rest : List Oper} {o : Oper} {a : Act} {Q : Exit → Act → World → Prop} (hgd : o.guard = none) (s x : Operand) (t : TypeId)
    (ho : o.op = .call { callee := .builtin .append, args := #[s, x], argTypes := #[t, t] }) (vs vx : Value) (hs : a.eval s = vs) (hx : a.eval x = vx) (v' : Value) (w' : World)
    (hrun : (Builtin.append_ #[t, t] o.type #[vs, vx]).run P w = .ok v' w') (h : wpList P ops Q rest (a.put o.dst v') w') : wpList P ops Q (o :: rest) a w := by
  refine wpList_plain hgd fun K hK => ?_
  unfold Oper.wp
  simp [execOp, ho, resolve, invoke, builtin, hs, hx, hrun, Result.andThen]
  exact hK _ _ h

set_option maxHeartbeats 1000000 in
theorem end1_any (W : World) (v : Value) (l : List Int) (id : Int) (c : Nat) (rc : Row W c #[.int .i64 id] 3) (ho : W.ownsRow 0 3 1 v l.length (vI l)) (hl : l.length ≤ 5000) :
    Calls Try.prog 61 #[v, .pointer (some ⟨c, 0, none⟩)] W (QPost W v (gEnd id l)) := by
  have f1 := (Fr.refl none' W).alloc (.cells #[.int .i64 id] 3)
  have r1 := row_alloc W #[.int .i64 id] 3
  have c0 := rc.cell 0
  obtain ⟨v', w', hrun, f2, h2, h3⟩ := append_q (W.alloc (.cells #[.int .i64 id] 3)) v l [id] ⟨W.heap.size, 0, none⟩ 1 (ownsRow_at ho fun q _ hl => f1.block q hl (fun h => h)) (by simp; omega) (fun j u hu => by
    rw [add_lit', Nat.zero_add, r1.cell]
    match j, hu with
    | 0, hu => simpa [vI] using hu
    | j + 1, hu => simp [vI] at hu)
  have HP : Hid (QPost W v (gEnd id l) (.returned v') w') := QPost.before f1 ⟨v', rfl, f2, h2, fun k hk => by
    rcases h3 with h3 | h3
    · exact Or.inl (hk.trans h3)
    · rw [h3] at hk
      exact Or.inr (by have := Option.some.inj hk; omega)⟩
  replace hrun : (Builtin.append_ #[43, 43] 43 #[v, .slice (some ⟨W.heap.size, 0, none⟩) 1 1]).run Try.prog (W.alloc (.cells #[.int .i64 id] 3)) = .ok v' w' := hrun
  clear f1 r1 f2 h2 h3 ho rc hl
  go_enter Try.func61, Try.ntmps61
  go_wp2_with (at_builtin; refine wpList_append_runK rfl _ _ 43 rfl _ _ rfl rfl _ _ hrun ?_)
  go_ret
  exact HP.out

/-! ### slices.Insert at 0 -/
def setL (cs : Array Value) : Nat → List Value → Array Value
  | _, [] => cs
  | o, v :: r => setL (cs.setIfInBounds o v) (o + 1) r
theorem setL_size : ∀ (vs : List Value) (cs : Array Value) (o : Nat), (setL cs o vs).size = cs.size
  | [], _, _ => rfl
  | v :: r, cs, o => by rw [setL, setL_size r]; simp
theorem setL_get : ∀ (vs : List Value) (cs : Array Value) (o k : Nat), o + vs.length ≤ cs.size → (setL cs o vs)[k]? = if o ≤ k ∧ k < o + vs.length then vs[k - o]? else cs[k]?
  | [], cs, o, k, _ => by rw [setL, if_neg (by simp only [List.length_nil]; omega)]
  | v :: r, cs, o, k, h => by
    rw [setL, setL_get r _ (o + 1) k (by simp at h ⊢; omega)]
    simp only [List.length_cons] at h ⊢
    by_cases h1 : o + 1 ≤ k ∧ k < o + 1 + r.length
    · rw [if_pos h1, if_pos (by omega), show k - o = (k - (o + 1)) + 1 by omega, List.getElem?_cons_succ]
    · rw [if_neg h1]
      by_cases h2 : k = o
      · subst h2
        rw [if_pos (by omega), Nat.sub_self, Array.getElem?_setIfInBounds_self_of_lt (by omega)]
        rfl
      · rw [if_neg (by omega), Array.getElem?_setIfInBounds_ne (by omega)]
theorem Row.setCells {b : Nat} {t : TypeId} : ∀ {vs : List Value} {w : World} {cs : Array Value} {o : Nat}, Row w b cs t → Row (w.setCells b o vs) b (setL cs o vs) t
  | [], _, _, _, h => h
  | v :: r, _, _, o, h => Row.setCells (vs := r) (o := o + 1) (h.setCell o v)
theorem Fr.setCells {S : Nat → Prop} {b : Nat} : ∀ {vs : List Value} {w w' : World} {o : Nat}, Fr S w w' → (w.heap.size ≤ b ∨ S b) → Fr S w (w'.setCells b o vs)
  | [], _, _, _, h, _ => h
  | v :: r, _, _, o, h, hb => Fr.setCells (vs := r) (o := o + 1) (h.setCell (p := ⟨b, o, none⟩) hb v) hb

theorem own_of {w : World} {g cap : Nat} {cur : Array Value} {l : List Int} (r : Row w g cur 3) (hc : l.length ≤ cap) (hm : cap ≤ maxLen) (hs : cur.size = cap) (hj : ∀ (j : Nat) (x : Int), l[j]? = some x → cur[j]? = some (Value.int .i64 x)) :
    w.ownsRow 0 3 1 (.slice (some ⟨g, 0, none⟩) l.length cap) l.length (vI l) := by
  refine ⟨by rw [vI_len]; omega, Or.inr ⟨g, cap, cur, rfl, by omega, r, hc, hm, by omega, ?_⟩⟩
  apply List.ext_getElem?
  intro j
  unfold vI
  rw [List.getElem?_take, List.getElem?_map]
  by_cases h : j < l.length
  · rw [if_pos (by omega), List.getElem?_eq_getElem h]
    have := hj j l[j] (List.getElem?_eq_getElem h)
    simpa using this
  · rw [if_neg (by omega), List.getElem?_eq_none (by omega)]
    rfl

theorem own_cells {w : World} {g cap n : Nat} {l : List Int} (h : w.ownsRow 0 3 1 (.slice (some ⟨g, 0, none⟩) n cap) l.length (vI l)) : n = l.length ∧ l.length ≤ cap ∧ cap ≤ maxLen ∧ ∃ cur, Row w g cur 3 ∧ cur.size = cap ∧ ∀ (j : Nat) (x : Int), l[j]? = some x → cur[j]? = some (Value.int .i64 x) := by
  obtain ⟨hl, h | ⟨g', cap', cur, hv, hb, hg, hc, hm, hs, ht⟩⟩ := h
  · cases h.1
  · simp only [Value.slice.injEq, Option.some.injEq, Addr.mk.injEq, and_true] at hv
    obtain ⟨rfl, rfl, rfl⟩ := hv
    refine ⟨rfl, hc, hm, cur, hg, by omega, fun j x hj => ?_⟩
    have hj' : j < l.length := by
      rcases Nat.lt_or_ge j l.length with h' | h'
      · exact h'
      · rw [List.getElem?_eq_none h'] at hj; cases hj
    have : (cur.toList.take (l.length * 1))[j]? = some (Value.int .i64 x) := by rw [ht]; unfold vI; rw [List.getElem?_map, hj]; rfl
    rw [List.getElem?_take, if_pos (by omega)] at this
    simpa using this

theorem own_form {w : World} {v : Value} {l : List Int} (h : w.ownsRow 0 3 1 v l.length (vI l)) : (v = .slice none 0 0 ∧ l = []) ∨ ∃ g cap, v = .slice (some ⟨g, 0, none⟩) l.length cap := by
  obtain ⟨hl, h | ⟨g, cap, cur, hv, _⟩⟩ := h
  · exact Or.inl ⟨h.1, List.length_eq_zero_iff.mp h.2⟩
  · exact Or.inr ⟨g, cap, hv⟩

theorem zero_size (n : Nat) : (Builtin.zeroCells (Value.int .i64 0).cells n).size = n := by
  rw [size_zeroCells]
  show n * 1 = n
  omega
theorem own_is {b n c k : Nat} (hk : some k = (Value.slice (some ⟨b, 0, none⟩) n c).ownBlock) : k = b := by simpa [Value.ownBlock] using hk

theorem insert_any (W : World) (v : Value) (l : List Int) (id : Int) (g : Nat) (rg : Row W g #[.int .i64 id] 3) (hg : some g ≠ v.ownBlock) (ho : W.ownsRow 0 3 1 v l.length (vI l)) (hl : l.length ≤ 5000) :
    Calls Try.prog 63 #[v, .int .i64 0, .slice (some ⟨g, 0, none⟩) 1 1] W (QPost W v (gFront id l)) := by
  have hvs : ∀ (j : Nat) (u : Value), [Value.int .i64 id][j]? = some u → W.cell? ⟨g, 0 + j, none⟩ = some u := fun j u hu => by
    rw [Nat.zero_add, rg.cell]
    match j, hu with
    | 0, hu => simpa using hu
    | j + 1, hu => simp at hu
  have h1 : ∀ u ∈ [Value.int .i64 id], u.oneCell' = true := fun u hu => by simp at hu; subst hu; rfl
  rcases own_form ho with ⟨rfl, rfl⟩ | ⟨b, cap, rfl⟩
  · refine (Any2.slices_Insert_int_end_grow Try.insA none 0 0 g 0 1 1 [] [.int .i64 id] W (by omega) (by omega) (by omega) (by omega) rfl rfl (fun _ => rfl) (fun a h => by cases h) hvs h1).mono ?_
    rintro e w' ⟨rfl, rfl⟩
    have hge := grownCap_ge W (0 + 1) 0 3
    have hcm : grownCap W (0 + 1) 0 3 ≤ maxLen := grownCap_le_maxLen W (0 + 1) 0 3 (by simp only [maxLen]; omega)
    refine ⟨_, rfl, ((Fr.refl _ _).drew).alloc _, ?_, fun k hk => Or.inr (Nat.le_of_eq (own_is hk).symm)⟩
    refine own_of (l := [id]) (row_alloc W.drew _ _) hge hcm ?_ (fun j x hj => ?_)
    · rw [Array.size_append, zero_size]
      show 1 + (grownCap W (0 + 1) 0 3 - (0 + 1)) = grownCap W (0 + 1) 0 3
      omega
    · match j, hj with
      | 0, hj => simp at hj; subst hj; rw [Array.getElem?_append_left (by simp)]; rfl
      | j + 1, hj => simp at hj
  · obtain ⟨_, hlc, hcm, cur, hr, hs, hx⟩ := own_cells ho
    have hgb : g ≠ b := fun e => hg (by rw [e]; rfl)
    have hcs : ∀ j u, (vI l)[j]? = some u → W.cell? ⟨b, 0 + j, none⟩ = some u := fun j u hu => by
      rw [Nat.zero_add, hr.cell]
      unfold vI at hu
      rw [List.getElem?_map] at hu
      cases hj : l[j]? with
      | none => rw [hj] at hu; cases hu
      | some x => rw [hj] at hu; simp at hu; subst hu; exact hx j x hj
    have hm63 : cap ≤ 9223372036854775807 := by simp only [maxLen] at hcm; omega
    by_cases he : l = []
    · subst he
      by_cases hroom : 0 + 1 ≤ cap
      · refine (Any2.slices_Insert_int_end_room Try.insA b 0 0 cap g 0 1 1 [.int .i64 id] W (by omega) hroom hm63 rfl (fun j hj => ?_) (fun j hj => hr.frozen _) hvs h1).mono ?_
        · rw [hr.cell, Array.getElem?_eq_getElem (by omega)]; rfl
        rintro e w' ⟨rfl, rfl⟩
        refine ⟨_, rfl, Fr.setCells (Fr.refl _ _) (Or.inr rfl), ?_, fun k hk => Or.inl hk⟩
        refine own_of (l := [id]) hr.setCells hroom hcm (by rw [setL_size]; exact hs) (fun j x hj => ?_)
        match j, hj with
        | 0, hj =>
          simp at hj; subst hj
          rw [setL_get _ _ _ _ (by simp; omega)]
          simp
        | j + 1, hj => simp at hj
      · refine (Any2.slices_Insert_int_end_grow Try.insA (some ⟨b, 0, none⟩) 0 cap g 0 1 1 [] [.int .i64 id] W (by omega) (by omega) (by omega) (by omega) rfl rfl (fun h => by cases h) (fun a h j u hu => by simp at hu) hvs h1).mono ?_
        rintro e w' ⟨rfl, rfl⟩
        have hge := grownCap_ge W (0 + 1) cap 3
        have hcm' : grownCap W (0 + 1) cap 3 ≤ maxLen := grownCap_le_maxLen W (0 + 1) cap 3 (by simp only [maxLen]; omega)
        refine ⟨_, rfl, ((Fr.refl _ _).drew).alloc _, ?_, fun k hk => Or.inr (Nat.le_of_eq (own_is hk).symm)⟩
        refine own_of (l := [id]) (row_alloc W.drew _ _) hge hcm' ?_ (fun j x hj => ?_)
        · rw [Array.size_append, zero_size]
          show 1 + (grownCap W (0 + 1) cap 3 - (0 + 1)) = grownCap W (0 + 1) cap 3
          omega
        · match j, hj with
          | 0, hj => simp at hj; subst hj; rw [Array.getElem?_append_left (by simp)]; rfl
          | j + 1, hj => simp at hj
    · have hpos : 0 < l.length := List.length_pos_iff.mpr he
      by_cases hroom : l.length + 1 ≤ cap
      · refine (Any2.slices_Insert_int_shift Try.insA b 0 l.length cap 0 g 0 1 1 (vI l) [.int .i64 id] W hpos (by omega) hroom hm63 hgb (vI_len l) rfl hcs (fun j hj => ?_) (fun j hj => hr.frozen _) hvs (vI_one l) h1 3 3 1 cap ?_ ?_ (by omega) (rg.frozen _) (rg.frozen _)).mono ?_
        · rw [hr.cell, Array.getElem?_eq_getElem (by omega)]; rfl
        · have rg' : W.heap[g]? = some (.cells #[.int .i64 id] 3 (0, 0)) := rg
          simp [World.shape?, rg']
        · have hr' : W.heap[b]? = some (.cells cur 3 (0, 0)) := hr
          simp [World.shape?, hr', hs]
        rintro e w' ⟨rfl, rfl⟩
        refine ⟨_, rfl, Fr.setCells (Fr.setCells ((Fr.refl _ _).drew) (Or.inr rfl)) (Or.inr rfl), ?_, fun k hk => Or.inl hk⟩
        have hl1 : (gFront id l).length = l.length + 1 := rfl
        rw [← hl1]
        refine own_of (l := gFront id l) (Row.setCells (Row.setCells hr.drew)) hroom hcm (by rw [setL_size, setL_size]; exact hs) (fun j x hj => ?_)
        rw [setL_get _ _ _ _ (by rw [setL_size]; simp; omega)]
        match j, hj with
        | 0, hj =>
          have : id = x := by simpa [gFront] using hj
          subst this
          simp
        | j + 1, hj =>
          have hj' : l[j]? = some x := by simpa [gFront] using hj
          have hjl : j < l.length := by
            rcases Nat.lt_or_ge j l.length with h' | h'
            · exact h'
            · rw [List.getElem?_eq_none h'] at hj'; cases hj'
          rw [if_neg (by simp), setL_get _ _ _ _ (by simp [vI_len]; omega), if_pos (by simp [vI_len]; omega)]
          simp [vI, hj']
      · refine (Any2.slices_Insert_int_grow Try.insA b 0 l.length cap 0 g 0 1 1 (vI l) [.int .i64 id] W hpos (by omega) hlc (by omega) (by omega) (vI_len l) rfl hcs hvs (vI_one l) h1).mono ?_
        rintro e w' ⟨rfl, rfl⟩
        have hge := grownCap_ge W (l.length + 1) cap 3
        have hcm' : grownCap W (l.length + 1) cap 3 ≤ maxLen := grownCap_le_maxLen W (l.length + 1) cap 3 (by simp only [maxLen]; omega)
        refine ⟨_, rfl, Fr.setCells ((Fr.setCells (((Fr.refl _ _).alloc _).drew) (Or.inl (Nat.le_refl _))).drew) (Or.inl (Nat.le_refl _)), ?_, fun k hk => Or.inr (Nat.le_of_eq (own_is hk).symm)⟩
        have hl1 : (gFront id l).length = l.length + 1 := rfl
        have hsz : (((vI l).take 0).toArray ++ Builtin.zeroCells (Value.int .i64 0).cells (l.length + 1 - 0) ++ Builtin.zeroCells (Value.int .i64 0).cells (grownCap W (l.length + 1) cap 3 - (l.length + 1))).size = grownCap W (l.length + 1) cap 3 := by
          rw [Array.size_append, Array.size_append, zero_size, zero_size]
          show 0 + (l.length + 1 - 0) + _ = _
          omega
        rw [← hl1]
        refine own_of (l := gFront id l) (Row.setCells (Row.drew (Row.setCells (Row.drew (row_alloc W _ _))))) hge hcm' (by rw [setL_size, setL_size]; exact hsz) (fun j x hj => ?_)
        rw [setL_get _ _ _ _ (by rw [setL_size]; exact Nat.le_trans (by simp [vI_len] at hge ⊢; omega) (Nat.le_of_eq hsz.symm))]
        match j, hj with
        | 0, hj =>
          have : id = x := by simpa [gFront] using hj
          subst this
          refine (if_neg (by simp)).trans ((setL_get _ _ _ _ (by exact Nat.le_trans (by simp only [List.length_cons, List.length_nil]; omega) (Nat.le_of_eq hsz.symm))).trans ?_)
          simp
        | j + 1, hj =>
          have hj' : l[j]? = some x := by simpa [gFront] using hj
          have hjl : j < l.length := by
            rcases Nat.lt_or_ge j l.length with h' | h'
            · exact h'
            · rw [List.getElem?_eq_none h'] at hj'; cases hj'
          rw [if_pos (by simp [vI_len]; omega)]
          simp [vI, hj']


set_option maxHeartbeats 1000000 in
theorem front1_any (W : World) (v : Value) (l : List Int) (id : Int) (c : Nat) (rc : Row W c #[.int .i64 id] 3) (ho : W.ownsRow 0 3 1 v l.length (vI l)) (hl : l.length ≤ 5000) :
    Calls Try.prog 62 #[v, .pointer (some ⟨c, 0, none⟩)] W (QPost W v (gFront id l)) := by
  have f1 := (Fr.refl none' W).alloc (.cells #[.int .i64 id] 3)
  have r1 := row_alloc W #[.int .i64 id] 3
  have c0 := rc.cell 0
  have HI : Hid (Calls Try.prog 63 #[v, .int .i64 0, .slice (some ⟨W.heap.size, 0, none⟩) 1 1] (W.alloc (.cells #[.int .i64 id] 3)) (QPost W v (gFront id l))) := (insert_any _ v l id W.heap.size r1 (fun e => by have := ownsRow_lt ho _ e; omega) (ownsRow_at ho fun q _ hl => f1.block q hl (fun h => h)) hl).mono fun e w' h => h.before f1
  clear f1 r1 ho rc hl
  generalize gFront id l = l' at *
  go_enter Try.func62, Try.ntmps62
  go_wp2_with (go_at_call 63; refine HI.out.mono ?_; rintro e w' ⟨v', rfl, hP⟩)
  go_ret
  exact ⟨v', rfl, hP⟩

/-! ### slices.DeleteFunc -/
theorem pred_any (W : World) (id x : Int) (c : Nat) (hc : W.cell? ⟨c, 0, none⟩ = some (.int .i64 id)) : FnGives Try.prog 66 #[.pointer (some ⟨c, 0, none⟩)] #[.int .i64 x] (.bool (x == id)) W := by
  show Calls Try.prog 66 #[.int .i64 x, .pointer (some ⟨c, 0, none⟩)] W _
  go_enter Try.func66, Try.ntmps66
  go_wp2
  go_ret
  exact ⟨rfl, 0, rfl⟩

theorem enters_pred : ∀ args w, (callFunc 66 args).run Try.prog w = .ok (.enter 66 args) w := enters_of Try.func66 (by kernel_rfl) rfl

theorem row_put {w : World} {g : Nat} {cur : Array Value} {t : TypeId} (h : Row w g cur t) (d : Array Int) (q : Nat) : Row (putRow (Value.int .i64) (Sort.ahead w q) g 0 d) g (putCells (Value.int .i64) 0 d cur) t := by
  have h' : w.heap[g]? = some (.cells cur t (0, 0)) := h
  show (w.heap.modify g _)[g]? = _
  rw [Array.getElem?_modify, if_pos rfl, h']
  rfl
theorem fr_put (w : World) (g : Nat) (d : Array Int) (q : Nat) : Fr (at' g) w (putRow (Value.int .i64) (Sort.ahead w q) g 0 d) :=
  ⟨rfl, rfl, rfl, by rw [size_putRow]; exact Nat.le_refl _, fun k _ hn => by
    show (w.heap.modify g _)[k]? = _
    rw [Array.getElem?_modify, if_neg (fun e => hn (Eq.symm e))]⟩

set_option maxHeartbeats 1000000 in
theorem index_nil (W : World) (fv : Value) : Calls Try.prog 69 #[.slice none 0 0, fv] W fun e w' => e = .returned (.int .i64 (-1)) ∧ w' = W := by
  go_enter Try.func69, Try.ntmps69
  go_wp2_with fail
  refine wp_loop_rounds 1 ?_
  rw [rounds_succ]
  go_wp2_with fail
  go_ret
  exact ⟨rfl, rfl⟩

set_option maxHeartbeats 1000000 in
theorem delete_nil (W : World) (fv : Value) : Calls Try.prog 65 #[.slice none 0 0, fv] W fun e w' => e = .returned (.slice none 0 0) ∧ w' = W := by
  go_enter Try.func65, Try.ntmps65
  go_wp2_with (go_at_call 69; refine (index_nil _ _).mono ?_; rintro e w' ⟨rfl, rfl⟩)
  go_ret
  exact ⟨rfl, rfl⟩

theorem delete_any (W : World) (v : Value) (l : List Int) (id : Int) (c : Nat) (rc : Row W c #[.int .i64 id] 3) (hc : some c ≠ v.ownBlock) (ho : W.ownsRow 0 3 1 v l.length (vI l)) :
    Calls Try.prog 65 #[v, .func (.func 66) #[] #[.pointer (some ⟨c, 0, none⟩)]] W (QPost W v (gOut id l)) := by
  rcases own_form ho with ⟨rfl, rfl⟩ | ⟨b, cap, rfl⟩
  · refine (delete_nil W _).mono ?_
    rintro e w' ⟨rfl, rfl⟩
    exact ⟨_, rfl, Fr.refl _ _, ho, fun k hk => Or.inl hk⟩
  · obtain ⟨_, hlc, hcm, cur, hr, hs, hx⟩ := own_cells ho
    have hcb : c ≠ b := fun e => hc (by rw [e]; rfl)
    have c0 := rc.cell 0
    have hm63 : cap ≤ 9223372036854775807 := by simp only [maxLen] at hcm; omega
    have hH : Holds (Value.int .i64) W b 0 l.toArray := fun j hj => by
      have hj' : j < l.length := by simpa using hj
      refine ⟨?_, hr.frozen _⟩
      rw [Nat.zero_add, hr.cell, hx j l[j] (List.getElem?_eq_getElem hj')]
      simp [hj']
    have hp : PredAt Try.prog 66 #[.pointer (some ⟨c, 0, none⟩)] (Value.int .i64) (fun x => x == id) W := fun W' x hb => pred_any W' id x c ((hb.cell (p := ⟨c, 0, none⟩) rc.lt).trans c0)
    have hpo : PredOver Try.prog 66 #[.pointer (some ⟨c, 0, none⟩)] (Value.int .i64) (fun x => x == id) b 0 l.toArray.size W := fun n os dk x _ => pred_any _ id x c (by
      unfold sortWorld
      rw [cell?_grow _ _ _ (by show c < (putRow _ _ _ _ _).heap.size; rw [size_putRow]; exact rc.lt), cell?_putRow_other _ _ b 0 _ _ (Or.inl hcb)]
      exact c0)
    have hD := AnyE.slices_DeleteFunc Try.delA (Value.int .i64) (fun _ => rfl) (fun x => x == id) 66 #[.pointer (some ⟨c, 0, none⟩)] enters_pred 0 Try.zeroValue3 b 0 cap l.toArray W hp hpo hH (by simp; omega) (by simpa using hlc)
    simp only [List.size_toArray] at hD
    refine hD.mono ?_
    rintro e w' ⟨rfl, q, rfl⟩
    have hle : (gOut id l).length ≤ l.length := List.length_filter_le _ _
    refine ⟨_, rfl, (fr_put W b _ q).mono (fun k _ e => congrArg some e), ?_, fun k hk => Or.inl hk⟩
    refine own_of (l := gOut id l) (row_put hr _ q) (by omega) hcm (by simpa [putCells] using hs) (fun j x hj => ?_)
    have hj' : j < (gOut id l).length := by
      rcases Nat.lt_or_ge j (gOut id l).length with h' | h'
      · exact h'
      · rw [List.getElem?_eq_none h'] at hj; cases hj
    unfold putCells
    rw [Array.getElem?_mapIdx, Array.getElem?_eq_getElem (by omega)]
    simp only [Option.map_some, Option.some.injEq]
    rw [if_pos ⟨by omega, by
      show j < 0 + ((gOut id l ++ List.replicate (l.length - (gOut id l).length) 0).toArray).size
      simp; omega⟩]
    show Value.int .i64 ((gOut id l ++ List.replicate (l.length - (gOut id l).length) 0).toArray[j - 0]!) = _
    rw [Nat.sub_zero, getElem!_pos _ j (by simp; omega)]
    simp only [List.getElem_toArray]
    rw [List.getElem_append_left hj']
    rw [List.getElem?_eq_getElem hj'] at hj
    rw [Option.some.inj hj]

set_option maxHeartbeats 1000000 in
theorem out1_any (W : World) (v : Value) (l : List Int) (id : Int) (c : Nat) (rc : Row W c #[.int .i64 id] 3) (hc : some c ≠ v.ownBlock) (ho : W.ownsRow 0 3 1 v l.length (vI l)) :
    Calls Try.prog 64 #[v, .pointer (some ⟨c, 0, none⟩)] W (QPost W v (gOut id l)) := by
  have HI : Hid (Calls Try.prog 65 #[v, .func (.func 66) #[] #[.pointer (some ⟨c, 0, none⟩)]] W (QPost W v (gOut id l))) := delete_any W v l id c rc hc ho
  clear ho rc hc
  generalize gOut id l = l' at *
  go_enter Try.func64, Try.ntmps64
  go_wp2_with (go_at_call 65; refine HI.out.mono ?_; rintro e w' ⟨v', rfl, hP⟩)
  go_ret
  exact ⟨v', rfl, hP⟩

/-- What a change is: the function fn makes of a number a closure that turns a queue by g. -/
structure Makes (fn : Nat) (g : Int → List Int → List Int) : Prop where
  ent : ∀ args w, (callFunc fn args).run Try.prog w = .ok (.enter fn args) w
  run : ∃ f2, (∀ args w, (callFunc f2 args).run Try.prog w = .ok (.enter f2 args) w) ∧
    (∀ (w : World) (id : Int), Calls Try.prog fn #[.int .i64 id] w fun e w' => ∃ c : Nat, e = .returned (.func (.func f2) #[] #[.pointer (some ⟨c, 0, none⟩)]) ∧ Fr none' w w' ∧ Row w' c #[.int .i64 id] 3 ∧ w.heap.size ≤ c) ∧
    ∀ (W : World) (v : Value) (l : List Int) (id : Int) (c : Nat), Row W c #[.int .i64 id] 3 → some c ≠ v.ownBlock → W.ownsRow 0 3 1 v l.length (vI l) → l.length ≤ 5000 → Calls Try.prog f2 #[v, .pointer (some ⟨c, 0, none⟩)] W (QPost W v (g id l))

theorem enters_end : ∀ args w, (callFunc 43 args).run Try.prog w = .ok (.enter 43 args) w := enters_of Try.func43 (by kernel_rfl) rfl
theorem enters_end1 : ∀ args w, (callFunc 61 args).run Try.prog w = .ok (.enter 61 args) w := enters_of Try.func61 (by kernel_rfl) rfl
theorem enters_front : ∀ args w, (callFunc 45 args).run Try.prog w = .ok (.enter 45 args) w := enters_of Try.func45 (by kernel_rfl) rfl
theorem enters_front1 : ∀ args w, (callFunc 62 args).run Try.prog w = .ok (.enter 62 args) w := enters_of Try.func62 (by kernel_rfl) rfl
theorem enters_out : ∀ args w, (callFunc 47 args).run Try.prog w = .ok (.enter 47 args) w := enters_of Try.func47 (by kernel_rfl) rfl
theorem enters_out1 : ∀ args w, (callFunc 64 args).run Try.prog w = .ok (.enter 64 args) w := enters_of Try.func64 (by kernel_rfl) rfl

theorem makes_end : Makes 43 gEnd where
  ent := enters_end
  run := ⟨61, enters_end1, fun w id => by
    have f1 := (Fr.refl none' w).alloc (.cells #[.int .i64 id] 3)
    have r1 := row_alloc w #[.int .i64 id] 3
    go_enter Try.func43, Try.ntmps43
    go_wp2
    go_ret
    exact ⟨_, rfl, f1, r1, Nat.le_refl _⟩, fun W v l id c rc _ ho hl => end1_any W v l id c rc ho hl⟩
theorem makes_front : Makes 45 gFront where
  ent := enters_front
  run := ⟨62, enters_front1, fun w id => by
    have f1 := (Fr.refl none' w).alloc (.cells #[.int .i64 id] 3)
    have r1 := row_alloc w #[.int .i64 id] 3
    go_enter Try.func45, Try.ntmps45
    go_wp2
    go_ret
    exact ⟨_, rfl, f1, r1, Nat.le_refl _⟩, fun W v l id c rc _ ho hl => front1_any W v l id c rc ho hl⟩
theorem makes_out : Makes 47 gOut where
  ent := enters_out
  run := ⟨64, enters_out1, fun w id => by
    have f1 := (Fr.refl none' w).alloc (.cells #[.int .i64 id] 3)
    have r1 := row_alloc w #[.int .i64 id] 3
    go_enter Try.func47, Try.ntmps47
    go_wp2
    go_ret
    exact ⟨_, rfl, f1, r1, Nat.le_refl _⟩, fun W v l id c rc hc ho _ => out1_any W v l id c rc hc ho⟩

end Go.Proofs.Ytipfgenbfnkpfaa
