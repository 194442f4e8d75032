/-
  Package cdt's Swap, whatever the names; and that what is told stays a right list behind every act. No statement is proved here.
-/
import Derived.Test.YtjopmhidldemmaaCdtSwap
namespace Go.Proofs.Ytjopmhidldemmaa
open Go.RowKit Go.Maps Go.WideMaps

def swpE (F : List En) (a b : Rf) : Int := if hasF F a && hasF F b then 0 else 131
def swpS (F : List En) (a b : Rf) : List En := if hasF F a && hasF F b then swpF a b F else F

set_option maxRecDepth 100000 in
set_option maxHeartbeats 1000000 in
theorem swap_no (w : World) (t : Nat) (T : Tr) (h : IsT w t T) (a b : Rf) (ha : a.Ok) (hb : b.Ok) (hn : (hasF T.F a && hasF T.F b) = false) :
    Calls Try.prog 16 #[pv t, rfV a, rfV b] w fun e w' => e = .returned (.int .i64 131) ∧ Fr none' w w' := by
  have f1 := ((Fr.refl none' w).alloc (.cells #[.int .i64 a.n, .int .i64 a.i] 33)).alloc (.cells #[.int .i64 b.n, .int .i64 b.i] 33)
  have rb := row_alloc1 w (.cells #[.int .i64 a.n, .int .i64 a.i] 33) #[.int .i64 b.n, .int .i64 b.i] 33
  have h1 := h.keep0 f1
  go_enter Try.func16, Try.ntmps16
  go_wp2_with fail
  refine (has_any _ t T h1 a ha).mono ?_
  rintro e w1 ⟨rfl, f2⟩
  replace h1 := h1.keep0 f2
  replace rb := rb.keep f2 (fun h => h)
  replace f1 := f1.trans f2
  clear f2
  cases hha : hasF T.F a with
  | false =>
    clear hn
    go_wp2
    go_ret
    exact ⟨rfl, f1⟩
  | true =>
    rw [hha, Bool.true_and] at hn
    have b0 := rb.cell 0
    have b1 := rb.cell 1
    go_wp2_with fail
    refine (has_any _ t T h1 b hb).mono ?_
    rintro e w2 ⟨rfl, f2⟩
    rw [hn]
    replace f1 := f1.trans f2
    clear f2 b0 b1
    go_wp2
    go_ret
    exact ⟨rfl, f1⟩

theorem swap_any (w : World) (t : Nat) (T : Tr) (h : IsT w t T) (wf : Wf T.F) (hlen : T.Y.length ≤ 1000) (a b : Rf) (ha : a.Ok) (hb : b.Ok) :
    Calls Try.prog 16 #[pv t, rfV a, rfV b] w fun e w' => e = .returned (.int .i64 (swpE T.F a b)) ∧ ∃ T', T'.F = swpS T.F a b ∧ ChgT w t T w' T' := by
  unfold swpE swpS
  cases hn : hasF T.F a && hasF T.F b with
  | false =>
    refine (swap_no w t T h a b ha hb hn).mono ?_
    rintro e w' ⟨rfl, f⟩
    exact ⟨rfl, T, rfl, ChgT.same h f⟩
  | true =>
    simp only [Bool.and_eq_true] at hn
    obtain ⟨A, x, C, hY, hxa, _⟩ := place_of hn.1
    obtain ⟨A', y, C', hY', hyb, _⟩ := place_of hn.2
    have hx : x ∈ T.Y := by rw [hY]; simp
    have hy : y ∈ T.Y := by rw [hY']; simp
    by_cases e : a = b
    · subst e
      exact swap_same w t T h wf hlen a ha x hx hxa
    · exact swap_two w t T h wf hlen a b ha hb e x y hx hy hxa hyb

/-! ### right lists -/
theorem wf_nil : Wf [] := ⟨trivial, List.nodup_nil, fun e h => by cases h⟩
theorem names_has {F : List En} {a : Rf} (h : hasF F a = false) : a ∉ F.map (·.a) := fun hm => by
  obtain ⟨e, he, hea⟩ := List.mem_map.1 hm
  exact has_not h e he hea
theorem wf_add {F : List En} (h : Wf F) {a : Rf} (ha : a.Ok) (hn : hasF F a = false) : Wf (addF a F) :=
  ⟨⟨by simp, by simp, h.st.mono (by simp)⟩, List.nodup_cons.2 ⟨names_has hn, h.nd⟩, fun e he => by
    rcases List.mem_cons.1 he with rfl | he
    · exact ha
    · exact h.ok e he⟩
theorem steps_kid {A C : List En} {e : En} {a : Rf} : ∀ {d : Int}, Steps d (A ++ e :: C) → Steps d (A ++ e :: ⟨a, e.d + 1⟩ :: C) := by
  induction A with
  | nil =>
    rintro d ⟨h0, h1, h2⟩
    exact ⟨h0, h1, by show 0 ≤ e.d + 1; omega, Int.le_refl _, h2.mono (by show e.d ≤ e.d + 1; omega)⟩
  | cons x A ih =>
    rintro d ⟨h0, h1, h2⟩
    exact ⟨h0, h1, ih h2⟩
theorem wf_kid {F : List En} (h : Wf F) {p a : Rf} (ha : a.Ok) (hp : hasF F p = true) (hn : hasF F a = false) : Wf (kidF p a F) := by
  obtain ⟨A, e, C, rfl, rfl, hA⟩ := has_split hp
  rw [kid_at hA]
  refine ⟨steps_kid h.st, ?_, fun e' he => ?_⟩
  · have hp : ((A ++ e :: ⟨a, e.d + 1⟩ :: C).map (·.a)).Perm (a :: (A ++ e :: C).map (·.a)) := by
      simp only [List.map_append, List.map_cons]
      have h1 : ((e.a :: a :: C.map (·.a))).Perm (a :: e.a :: C.map (·.a)) := List.Perm.swap _ _ _
      exact (h1.append_left _).trans List.perm_middle
    rw [hp.nodup_iff]
    exact List.nodup_cons.2 ⟨names_has hn, h.nd⟩
  · simp only [List.mem_append, List.mem_cons] at he
    rcases he with he | rfl | rfl | he
    · exact h.ok e' (by simp [he])
    · exact h.ok e' (by simp)
    · exact ha
    · exact h.ok e' (by simp [he])
theorem steps_low {k : Int} (hk : 0 ≤ k) : ∀ {C : List En} {c c' : Int}, Steps c C → c ≤ c' + 1 → k ≤ c' + 1 → Steps c' ((runF k C).map up1 ++ restF k C)
  | [], _, _, _, _, _ => trivial
  | x :: C, c, c', ⟨h0, h1, h2⟩, hc, hk' => by
    unfold runF restF
    split
    · rename_i hl
      refine ⟨?_, ?_, steps_low hk h2 ?_ ?_⟩ <;> (show _ ≤ _; simp only [up1]; omega)
    · exact ⟨h0, by omega, h2⟩
theorem steps_rem {A C : List En} {e : En} : ∀ {d : Int}, Steps d (A ++ e :: C) → Steps d (A ++ ((runF e.d C).map up1 ++ restF e.d C)) := by
  induction A with
  | nil =>
    rintro d ⟨h0, h1, h2⟩
    exact steps_low h0 h2 h1 h1
  | cons x A ih =>
    rintro d ⟨h0, h1, h2⟩
    exact ⟨h0, h1, ih h2⟩
theorem low_names (k : Int) (C : List En) : ((runF k C).map up1 ++ restF k C).map (·.a) = C.map (·.a) := by
  rw [List.map_append, List.map_map]
  show (runF k C).map (·.a) ++ _ = _
  rw [← List.map_append, runF_restF]
theorem wf_rem {F : List En} (h : Wf F) (a : Rf) : Wf (remF a F) := by
  cases hh : hasF F a with
  | false => rw [rem_none hh]; exact h
  | true =>
    obtain ⟨A, e, C, rfl, rfl, hA⟩ := has_split hh
    rw [rem_at hA]
    have hn : ((A ++ ((runF e.d C).map up1 ++ restF e.d C)).map (·.a)) = (A ++ C).map (·.a) := by rw [List.map_append, low_names, List.map_append]
    refine ⟨steps_rem h.st, ?_, fun e' he => ?_⟩
    · rw [hn]
      exact h.nd.sublist (List.Sublist.map _ (List.Sublist.append_left (List.sublist_cons_self _ _) _))
    · have : e'.a ∈ (A ++ C).map (·.a) := by rw [← hn]; exact List.mem_map.2 ⟨e', he, rfl⟩
      obtain ⟨e2, he2, e3⟩ := List.mem_map.1 this
      rw [← e3]
      refine h.ok e2 ?_
      rcases List.mem_append.1 he2 with he2 | he2 <;> simp [he2]
theorem steps_map {f : En → En} (hf : ∀ e, (f e).d = e.d) : ∀ {F : List En} {d : Int}, Steps d F → Steps d (F.map f)
  | [], _, _ => trivial
  | e :: F, d, ⟨h0, h1, h2⟩ => ⟨by rw [hf]; exact h0, by rw [hf]; exact h1, by rw [hf]; exact steps_map hf h2⟩
theorem nm1_d (a b : Rf) (e : En) : (nm1 a b e).d = e.d := by unfold nm1; split <;> rfl
theorem nm2_d (a b : Rf) (e : En) : (nm2 a b e).d = e.d := by
  unfold nm2
  repeat' split
  all_goals rfl
theorem mov_at {A C : List En} {e : En} {b : Rf} (h1 : ∀ x ∈ A, x.a ≠ e.a) (h2 : ∀ x ∈ C, x.a ≠ e.a) : movF e.a b (A ++ e :: C) = A ++ ⟨b, e.d⟩ :: C := by
  unfold movF
  rw [List.map_append, List.map_cons, map_id_of (L := A) (fun x hx => by simp [nm1, h1 x hx]), map_id_of (L := C) (fun x hx => by simp [nm1, h2 x hx])]
  simp [nm1]
theorem wf_mov {F : List En} (h : Wf F) {a b : Rf} (hb : b.Ok) (hn : hasF F b = false) : Wf (movF a b F) := by
  refine ⟨steps_map (nm1_d a b) h.st, ?_, fun e he => ?_⟩
  · cases hh : hasF F a with
    | false =>
      have : movF a b F = F := map_id_of (fun x hx => by simp [nm1, has_not hh x hx])
      rw [this]
      exact h.nd
    | true =>
      obtain ⟨A, e, C, rfl, rfl, hA⟩ := has_split hh
      have hnd := h.nd
      simp only [List.map_append, List.map_cons, List.nodup_append, List.nodup_cons, List.mem_map, List.mem_cons] at hnd
      obtain ⟨g1, ⟨g2, g3⟩, g4⟩ := hnd
      rw [mov_at (has_not hA) (fun x hx hh => g2 ⟨x, hx, hh⟩)]
      have hp : ((A ++ ⟨b, e.d⟩ :: C).map (·.a)).Perm (b :: (A ++ C).map (·.a)) := by
        simp only [List.map_append, List.map_cons]
        exact List.perm_middle
      rw [hp.nodup_iff]
      refine List.nodup_cons.2 ⟨fun hm => names_has hn ?_, h.nd.sublist (List.Sublist.map _ (List.Sublist.append_left (List.sublist_cons_self _ _) _))⟩
      obtain ⟨x, hx, hxa⟩ := List.mem_map.1 hm
      refine List.mem_map.2 ⟨x, ?_, hxa⟩
      rcases List.mem_append.1 hx with hx | hx <;> simp [hx]
  · obtain ⟨e', he', rfl⟩ := List.mem_map.1 he
    unfold nm1
    split
    · exact hb
    · exact h.ok e' he'
theorem wf_swp {F : List En} (h : Wf F) {a b : Rf} (ha : a.Ok) (hb : b.Ok) : Wf (swpF a b F) := by
  refine ⟨steps_map (nm2_d a b) h.st, ?_, fun e he => ?_⟩
  · have e : (swpF a b F).map (·.a) = (F.map (·.a)).map (swR a b) := by
      unfold swpF
      rw [List.map_map, List.map_map]
      apply List.map_congr_left
      intro z _
      exact nm2_a a b z
    rw [e]
    exact nodup_map h.nd a b
  · obtain ⟨e', he', rfl⟩ := List.mem_map.1 he
    rw [nm2_a]
    unfold swR
    repeat' split
    · exact hb
    · exact ha
    · exact h.ok e' he'

/-- An act, as a plain function. -/
structure Ac where
  op : Int
  a : Rf
  b : Rf
structure OkA (x : Ac) : Prop where
  a : x.a.Ok
  b : x.b.Ok
def stepF (F : List En) (x : Ac) : List En :=
  if x.op = 1 then addS F x.a else if x.op = 2 then kidS F x.a x.b else if x.op = 3 then remF x.a F else if x.op = 4 then movS F x.a x.b else if x.op = 5 then swpS F x.a x.b else F
theorem wf_step {F : List En} (h : Wf F) {x : Ac} (hx : OkA x) : Wf (stepF F x) := by
  unfold stepF
  split
  · unfold addS
    split
    · exact h
    · exact wf_add h hx.a (by simp_all)
  · split
    · unfold kidS
      split
      · split
        · exact h
        · exact wf_kid h hx.b (by assumption) (by simp_all)
      · exact h
    · split
      · exact wf_rem h _
      · split
        · unfold movS
          split
          · split
            · exact h
            · exact wf_mov h hx.b (by simp_all)
          · exact h
        · split
          · unfold swpS
            split
            · exact wf_swp h hx.a hx.b
            · exact h
          · exact h
theorem kid_len (p a : Rf) : ∀ F : List En, (kidF p a F).length ≤ F.length + 1
  | [] => by simp [kidF]
  | e :: F => by
    unfold kidF
    split
    · simp
    · have := kid_len p a F
      simp
      omega
theorem rem_len (a : Rf) : ∀ F : List En, (remF a F).length ≤ F.length
  | [] => by simp [remF]
  | e :: F => by
    unfold remF
    split
    · have := congrArg List.length (runF_restF e.d F)
      simp at this ⊢
      omega
    · have := rem_len a F
      simp
      omega
theorem len_step (F : List En) (x : Ac) : (stepF F x).length ≤ F.length + 1 := by
  have h1 := kid_len x.a x.b F
  have h2 := rem_len x.a F
  unfold stepF addS kidS movS swpS
  repeat' split
  all_goals simp [addF, movF, swpF]
  all_goals omega

end Go.Proofs.Ytjopmhidldemmaa
