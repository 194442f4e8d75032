/-
  A row of children turned; the document's Child. No statement is proved here.
-/
import Derived.Test.YtjopmhidldemmaaCdtRefR
import Derived.Deep.RegionHeld3
namespace Go.Proofs.Ytjopmhidldemmaa
open Go.RowKit Go.Maps Go.WideMaps

def setK (L : List On) (k : Nat) (l : List Nat) : List On := match L[k]? with
  | some o => L.set k ⟨o.a, o.up, l, o.go⟩
  | none => L
theorem setK_len (L : List On) (k : Nat) (l : List Nat) : (setK L k l).length = L.length := by unfold setK; split <;> simp

/-- Other children: what may have been laid since, and one cell. -/
theorem IsR.kids {w w2 w3 : World} {B r g cap : Nat} {q : Qr} {L : List On} {ro l : List Nat} {u : Value} {k : Nat} {o : On} (h : IsR w B r q L ro) (f2 : Fr none' w w2) (hv : q.v = .slice (some ⟨g, 0, none⟩) L.length cap) (hk : L[k]? = some o) (hu : Ks w2 B u l) (hw3 : w3 = w2.setCell ⟨g, k * 5 + 3, none⟩ u) :
    IsR w3 B r ⟨q.v, updV q.K k u, q.u⟩ (setK L k l) ro ∧ Fr (at' g) w w3 := by
  have hkl := (List.getElem?_eq_some_iff.1 hk).1
  have h2 := h.keep0 f2
  have hob : q.v.ownBlock = some g := by rw [hv]; rfl
  have f := fr_set w2 g (k * 5 + 3) u (Fr.refl _ _)
  have hown := h2.own
  rw [hv] at hown
  have h5 := hown.set (j := k * 5 + 3) (by rw [flatO_len]; omega) u
  have ho : onV (⟨o.a, o.up, l, o.go⟩ : On) (updV q.K k u k) = (onV o (q.K k)).set 3 u := by
    have : updV q.K k u k = u := by unfold updV; rw [if_pos rfl]
    rw [this]
    rfl
  rw [← flatO_set (K' := updV q.K k u) (o' := ⟨o.a, o.up, l, o.go⟩) hk (by omega) ho (fun j hj => by unfold updV; rw [if_neg hj])] at h5
  have hset : setK L k l = L.set k ⟨o.a, o.up, l, o.go⟩ := by unfold setK; rw [hk]
  have hks : ∀ {v : Value} {m : List Nat}, Ks w2 B v m → Ks w3 B v m := fun {v m} hh => by
    rw [hw3]
    exact hh.at (fun x hx hl => f.block x hl (fun e => own_own h2.own hh (by decide) x hx (by rw [hob]; exact congrArg some e)))
  rw [hset]
  refine ⟨⟨by rw [hw3]; exact h2.row.keep f (fun e => h2.nb (by rw [hob]; exact congrArg some e)), ?_, hks h2.rts, fun i o2 hi => ?_, h.hi, by simpa using h.sm⟩, by rw [hw3]; exact (f2.mono (fun _ _ h => h.elim)).trans f⟩
  · rw [List.length_set, hw3]
    show OwnK _ 5 _ B q.v _ _
    rw [hv]
    exact h5
  · by_cases e : k = i
    · subst e
      rw [List.getElem?_set_self hkl] at hi
      cases hi
      have : updV q.K k u k = u := by unfold updV; rw [if_pos rfl]
      show Ks w3 B (updV q.K k u k) l
      rw [this]
      exact hks hu
    · rw [List.getElem?_set_ne e] at hi
      have : updV q.K k u i = q.K i := by unfold updV; rw [if_neg (fun h => e h.symm)]
      show Ks w3 B (updV q.K k u i) o2.ks
      rw [this]
      exact hks (h2.kd i o2 hi)

def rkidE (L : List On) (p a : Rf) : Int := if fdR p L = none then 131 else if fdR a L = none then 0 else 130
def rkidL (L : List On) (p a : Rf) : List On := match fdR p L, fdR a L with
  | some k, none => setK (L ++ [⟨a, (k : Int), [], false⟩]) k (L.length :: (match L[k]? with | some o => o.ks | none => []))
  | _, _ => L

set_option maxRecDepth 100000 in
set_option maxHeartbeats 2000000 in
theorem rchild_any (w : World) (B r : Nat) (q : Qr) (L : List On) (ro : List Nat) (h : IsR w B r q L ro) (p a : Rf) (hsm : L.length + 1 ≤ 1000) (hks : ∀ k o, fdR p L = some k → L[k]? = some o → o.ks.length ≤ 10000) :
    Calls Try.prog 18 #[pv r, rfV p, rfV a] w fun e w' => e = .returned (.int .i64 (rkidE L p a)) ∧ ChgR w B r w' (rkidL L p a) ro := by
  have f1 := ((Fr.refl none' w).alloc (.cells #[.int .i64 p.n, .int .i64 p.i] 33)).alloc (.cells #[.int .i64 a.n, .int .i64 a.i] 33)
  have ra := row_alloc1 w (.cells #[.int .i64 p.n, .int .i64 p.i] 33) #[.int .i64 a.n, .int .i64 a.i] 33
  have h1 := h.keep0 f1
  have HH : Hid _ := ⟨h⟩
  clear h
  go_enter Try.func18, Try.ntmps18
  go_wp2_with fail
  refine (find_any _ B r q L ro h1 p).mono ?_
  rintro e w0 ⟨rfl, f2⟩
  replace h1 := h1.keep0 f2
  replace ra := ra.keep f2 (fun h => h)
  replace f1 := f1.trans f2
  clear f2
  have a0 := ra.cell 0
  have a1 := ra.cell 1
  go_wp2_with fail
  refine (find_any _ B r q L ro h1 a).mono ?_
  rintro e w1 ⟨rfl, f2⟩
  replace h1 := h1.keep0 f2
  replace ra := ra.keep f2 (fun h => h)
  replace f1 := f1.trans f2
  clear f2 a0 a1
  cases hfp : fdR p L with
  | none =>
    rw [fdI_neg hfp]
    go_wp2
    go_ret
    exact ⟨by simp [rkidE, hfp], by simp only [rkidL, hfp]; exact ChgR.same HH.out f1⟩
  | some k =>
    rw [fdI_pos hfp]
    have hk0 : decide ((k : Int) < 0) = false := decide_eq_false (by omega)
    cases hfa : fdR a L with
    | some j =>
      rw [fdI_pos hfa]
      have hj0 : decide (0 ≤ (j : Int)) = true := decide_eq_true (by omega)
      go_wp2
      go_ret
      exact ⟨by simp [rkidE, hfp, hfa], by simp only [rkidL, hfp, hfa]; exact ChgR.same HH.out f1⟩
    | none =>
      rw [fdI_neg hfa]
      obtain ⟨op, hop, _⟩ := fdR_some hfp
      have hkl := (List.getElem?_eq_some_iff.1 hop).1
      obtain ⟨V, hV⟩ : ∃ V, V = (w1.alloc (.cells #[.int .i64 a.n, .int .i64 a.i, .int .i64 (k : Int), .slice none 0 0, .bool false] 64)).drew := ⟨_, rfl⟩
      have fV : Fr none' w1 V := by rw [hV]; exact ((Fr.refl none' w1).alloc _).drew
      have rV : Row V w1.heap.size #[.int .i64 a.n, .int .i64 a.i, .int .i64 (k : Int), .slice none 0 0, .bool false] 64 := by rw [hV]; exact row_alloc w1 _ _
      have hV1 := h1.keep0 fV
      have hBV : B ≤ V.heap.size := Nat.le_of_lt (Nat.lt_of_le_of_lt hV1.hi hV1.row.lt)
      obtain ⟨v2, w2, hrun1, f2, o2⟩ := append_on (o := ⟨a, (k : Int), [], false⟩) (K := updV q.K L.length (.slice none 0 0)) hBV (by
        rw [flatO_congr (K := updV q.K L.length (.slice none 0 0)) (K' := q.K) (i := 0) (L := L) (fun j _ hj => by unfold updV; rw [if_neg (by omega)])]
        exact hV1.own) (by omega) (by unfold updV; rw [if_pos rfl]) rV
      obtain ⟨W, hW⟩ : ∃ W, W = w2.setCell ⟨r, 0, none⟩ v2 := ⟨_, rfl⟩
      obtain ⟨hI, hF⟩ := h1.push fV f2 rfl hsm o2 hW
      obtain ⟨g2, cap2, cur2, hv2, _, hr2, _⟩ := o2.row (by simp)
      have rw2 := hV1.row.keep f2 (fun e => hV1.nb e)
      have c20 : w2.cell? ⟨r, 0, none⟩ = some q.v := rw2.cell 0
      have z20 := rw2.frozen 0
      obtain ⟨U, hU⟩ : ∃ U, U = (W.alloc (.cells #[.int .i64 (L.length : Int)] 3)).drew := ⟨_, rfl⟩
      have fU : Fr none' W U := by rw [hU]; exact ((Fr.refl none' W).alloc _).drew
      have hIU := hI.keep0 fU
      have hBW : B ≤ W.heap.size := Nat.le_of_lt (Nat.lt_of_le_of_lt hI.hi hI.row.lt)
      have kU : Ks U W.heap.size (.slice (some ⟨W.heap.size, 0, none⟩) 1 1) [L.length] := by rw [hU]; exact (ks_one W W.heap.size L.length (Nat.le_refl _)).keep0 ((Fr.refl none' _).drew)
      have hop' : (L ++ [⟨a, (k : Int), [], false⟩] : List On)[k]? = some op := by rw [List.getElem?_append_left hkl]; exact hop
      have hKk : updV q.K L.length (.slice none 0 0) k = q.K k := by unfold updV; rw [if_neg (by omega)]
      have hkk := hIU.kd k op hop'
      have hkk' : Ks U B (q.K k) op.ks := by
        have : (⟨v2, updV q.K L.length (.slice none 0 0), q.u⟩ : Qr).K k = q.K k := hKk
        rw [this] at hkk
        exact hkk
      obtain ⟨v3, w3, hrun2, f3, k3⟩ := append_ks (fU.size) kU hkk' (by simp) (by have := hks k op hfp hop; omega)
      have f3' : Fr none' W w3 := ⟨f3.os.trans fU.os, f3.tape.trans fU.tape, f3.output.trans fU.output, Nat.le_trans fU.size f3.size, fun i hi hn => (f3.block i (Nat.lt_of_lt_of_le hi fU.size) (fun e => by simp [Value.ownBlock] at e; omega)).trans (fU.block i hi hn)⟩
      obtain ⟨X, hX⟩ : ∃ X, X = w3.setCell ⟨g2, k * 5 + 3, none⟩ v3 := ⟨_, rfl⟩
      have k3' : Ks w3 B v3 ([L.length] ++ op.ks) := by
        obtain ⟨g3, cap3, cur3, hv3, hb3, rest⟩ := k3.row (by simp)
        obtain ⟨⟨q1, q2⟩, q3⟩ := k3
        refine ⟨⟨q1, ?_⟩, q3⟩
        rcases q2 with q2 | ⟨g', c', cu', e1, e2, e3⟩
        · exact Or.inl q2
        · exact Or.inr ⟨g', c', cu', e1, Nat.le_trans hBW e2, e3⟩
      obtain ⟨hI3, hF3⟩ := hI.kids f3' (by rw [hv2]) hop' k3' hX
      obtain ⟨g3, cap3, cur3, hv3, _⟩ := k3.row (by simp)
      have r3 := (hI.keep0 f3').row
      have HD : Hid (ChgR w B r X (rkidL L p a) ro) := by
        refine ⟨?_⟩
        simp only [rkidL, hfp, hfa, hop]
        have g1 : Fr (RefB B w) w W := ((f1.mono (fun _ _ h => h.elim)).trans hF).mono (fun k _ hk => HH.out.kinds k hk)
        have g2' : Fr (RefB B W) W X := hF3.mono (fun k _ e => by
          have e' : k = g2 := e
          rw [e']
          exact hI.kinds g2 (Or.inr (Or.inl (by show some g2 = v2.ownBlock; rw [hv2]; rfl))))
        exact ⟨_, hI3, refB_trans g1 g2'⟩
      have a0 := ra.cell 0
      have a1 := ra.cell 1
      have c0 := h1.c0
      have c0V : (w1.alloc (.cells #[.int .i64 a.n, .int .i64 a.i, .int .i64 (k : Int), .slice none 0 0, .bool false] 64)).cell? ⟨r, 0, none⟩ = some q.v := (h1.row.alloc _).cell 0
      obtain ⟨va, vcap, hqv, _⟩ := h1.form
      have cW0 := hI.c0
      obtain ⟨ka, kcap, hqk, _⟩ := hkk'.cells
      obtain ⟨wa, wcap, hwv, hwn⟩ := hI.form
      obtain ⟨gg, hgg, _, _, _, d3, _⟩ := hwn k op hop'
      have egg : gg = g2 := by
        rw [hgg] at hwv
        have hwv' : v2 = .slice (some ⟨gg, 0, none⟩) _ wcap := hwv
        rw [hv2] at hwv'
        simp at hwv'
        exact hwv'.1.symm
      subst egg
      have d3' : W.cell? ⟨gg, k * 5 + 3, none⟩ = some (q.K k) := by
        have : (⟨v2, updV q.K L.length (.slice none 0 0), q.u⟩ : Qr).K k = q.K k := hKk
        rw [← this]
        exact d3
      have rgW : ∃ cs, Row W gg cs 64 := by
        obtain ⟨g', c', cu', e1, _, e2, _⟩ := hI.own.row (by simp)
        have e1' : v2 = .slice (some ⟨g', 0, none⟩) _ c' := e1
        rw [hv2] at e1'
        simp at e1'
        exact ⟨cu', by rw [e1'.1]; exact e2⟩
      obtain ⟨csW, rgW⟩ := rgW
      have d3A : (W.alloc (.cells #[.int .i64 (L.length : Int)] 3)).cell? ⟨gg, k * 5 + 3, none⟩ = some (q.K k) := cell_keep ((Fr.refl none' W).alloc _) d3' (fun h => h)
      have d33 : w3.cell? ⟨gg, k * 5 + 3, none⟩ = some (q.K k) := cell_keep f3' d3' (fun h => h)
      have z33 := (rgW.keep f3' (fun h => h)).frozen (k * 5 + 3)
      have c30 : w3.cell? ⟨r, 0, none⟩ = some v2 := r3.cell 0
      have hgr : gg ≠ r := fun e => by
        have h' : W.heap[gg]? = some (.cells csW 64 (0, 0)) := rgW
        rw [e, show W.heap[r]? = _ from hI.row] at h'
        cases h'
      have cX0 : X.cell? ⟨r, 0, none⟩ = some v2 := hI3.c0
      rw [hX] at cX0
      have cA0 : (W.alloc (.cells #[.int .i64 (L.length : Int)] 3)).cell? ⟨r, 0, none⟩ = some v2 := (hI.row.alloc _).cell 0
      have cW0' : W.cell? ⟨r, 0, none⟩ = some v2 := cW0
      rw [hv2] at hrun1 cW0' hW c30 cX0 cA0
      rw [hv3] at hrun2 hX cX0
      rw [hqk] at hrun2 d3' d3A d33
      rw [hqv] at hrun1 c0 c20 c0V
      have hla : (L ++ [⟨a, (k : Int), [], false⟩] : List On).length = L.length + 1 := by simp
      have hlb : ([L.length] ++ op.ks : List Nat).length = op.ks.length + 1 := by simp
      rw [hla] at hrun1 hW cW0' c30 cX0 cA0
      rw [hlb] at hrun2 hX cX0
      rw [hV] at hrun1
      rw [hU] at hrun2
      have hsub : IntKind.i64.wrap (L.length : Int) = (L.length : Int) := by
        simp [IntKind.wrap, IntKind.bits, IntKind.signed]
        omega
      have i1 : 0 ≤ (k : Int) ∧ (k : Int) < (L.length : Int) + 1 := by omega
      have i1' : (k : Int) < ((L.length + 1 : Nat) : Int) := by omega
      have HE : Hid (rkidE L p a = 0) := ⟨by simp [rkidE, hfp, hfa]⟩
      clear hI hIU hI3 hF hF3 ra rV hV1 kU k3 k3' o2 f2 f3 f3' fV fU rw2 hqv hv2 hv3 hV hU HH f1 hBV hBW hla hlb hwn hwv hkk hkk' hop' hKk hqk d3 r3 rgW hr2 h1 cW0 hgg hop hks
      generalize L.length = N at *
      go_wp2_with fail
      go_region_law (refine step_append_run rfl (.tmp 23) (.tmp 27) 27 rfl _ _ _ _ rfl rfl hrun1 ?_)
      all_goals rw [← hW]
      all_goals clear hW c0 c0V c20 z20 hrun1 a0 a1
      all_goals go_wp2_with fail
      all_goals (
        refine wp_region_held (S := (fun w' => w'.cell? ⟨r, 0, none⟩ = some (.slice (some ⟨gg, 0, none⟩) (N + 1) cap2))) (by kernel_rfl) ?_
        change wpAnyH _ _ _ _ _ _ _ _ (World.drew _)
        refine wpAnyH_take (i := 0) (v := ?_) rfl (by kernel_rfl) (by kernel_rfl) (by kernel_rfl) (fun _ _ _ h => h) (Or.inl ⟨by kernel_rfl, fun w hS => ?_⟩) cW0' ?_
        rotate_left
        · go_simp
          try with_reducible rfl
        show wpAnyH _ _ _ _ _ _ _ (Act.put _ (some 31) _) _
        simp only [Act.put, List.setIfInBounds_toArray, List.set_cons_succ, List.set_cons_zero]
        refine wpAnyH_take (i := 1) (v := ?_) rfl (by kernel_rfl) (by kernel_rfl) (by kernel_rfl) (fun _ _ _ h => h) (Or.inl ⟨by kernel_rfl, fun w hS => ?_⟩) cW0' ?_
        rotate_left
        · go_simp
          try with_reducible rfl
        show wpAnyH _ _ _ _ _ _ _ (Act.put _ (some 32) _) _
        simp only [Act.put, List.setIfInBounds_toArray, List.set_cons_succ, List.set_cons_zero]
        refine wpAnyH_take (i := 2) (v := ?_) rfl (by kernel_rfl) (by kernel_rfl) (by kernel_rfl) (fun _ _ _ h => h) (Or.inl ⟨by kernel_rfl, fun w hS => ?_⟩) cW0' ?_
        rotate_left
        · go_simp
          try with_reducible rfl
        show wpAnyH _ _ _ _ _ _ _ (Act.put _ (some 33) _) _
        simp only [Act.put, List.setIfInBounds_toArray, List.set_cons_succ, List.set_cons_zero]
        refine wpAnyH_take (i := 3) (v := ?_) rfl (by kernel_rfl) (by kernel_rfl) (by kernel_rfl) (fun _ _ _ h => h) (Or.inl ⟨by kernel_rfl, fun w hS => ?_⟩) cW0' ?_
        rotate_left
        · go_simp
          try with_reducible rfl
        show wpAnyH _ _ _ _ _ _ _ (Act.put _ (some 34) _) _
        simp only [Act.put, List.setIfInBounds_toArray, List.set_cons_succ, List.set_cons_zero]
        refine wpAnyH_take (i := 4) (v := ?_) rfl (by kernel_rfl) (by kernel_rfl) (by kernel_rfl) (fun _ _ _ h => h) (Or.inl ⟨by kernel_rfl, fun w hS => ?_⟩) cW0' ?_
        rotate_left
        · go_simp
          try with_reducible rfl
        show wpAnyH _ _ _ _ _ _ _ (Act.put _ (some 35) _) _
        simp only [Act.put, List.setIfInBounds_toArray, List.set_cons_succ, List.set_cons_zero]
        refine wpAnyH_take (i := 5) (v := ?_) rfl (by kernel_rfl) (by kernel_rfl) (by kernel_rfl) (fun _ _ _ h => h) (Or.inl ⟨by kernel_rfl, fun w hS => ?_⟩) cW0' ?_
        rotate_left
        · go_simp
          try with_reducible rfl
        show wpAnyH _ _ _ _ _ _ _ (Act.put _ (some 36) _) _
        simp only [Act.put, List.setIfInBounds_toArray, List.set_cons_succ, List.set_cons_zero]
        refine wpAnyH_take (i := 6) (v := ?_) rfl (by kernel_rfl) (by kernel_rfl) (by kernel_rfl) (fun _ _ _ h => h) (Or.inl ⟨by kernel_rfl, fun w hS => ?_⟩) cW0' ?_
        rotate_left
        · go_simp
          try with_reducible rfl
        show wpAnyH _ _ _ _ _ _ _ (Act.put _ (some 37) _) _
        simp only [Act.put, List.setIfInBounds_toArray, List.set_cons_succ, List.set_cons_zero]
        refine wpAnyH_take (i := 7) (v := ?_) rfl (by kernel_rfl) (by kernel_rfl) (by kernel_rfl) (fun _ _ _ h => h) (Or.inl ⟨by kernel_rfl, fun w hS => ?_⟩) cW0' ?_
        rotate_left
        · go_simp
          try with_reducible rfl
        show wpAnyH _ _ _ _ _ _ _ (Act.put _ (some 38) _) _
        simp only [Act.put, List.setIfInBounds_toArray, List.set_cons_succ, List.set_cons_zero]
        refine wpAnyH_take (i := 8) (v := ?_) rfl (by kernel_rfl) (by kernel_rfl) (by kernel_rfl) (fun _ _ _ h => h) (Or.inl ⟨by kernel_rfl, fun w hS => ?_⟩) cW0' ?_
        rotate_left
        · go_simp
          try with_reducible rfl
        show wpAnyH _ _ _ _ _ _ _ (Act.put _ (some 39) _) _
        simp only [Act.put, List.setIfInBounds_toArray, List.set_cons_succ, List.set_cons_zero]
        refine wpAnyH_take (i := 9) (v := ?_) rfl (by kernel_rfl) (by kernel_rfl) (by kernel_rfl) (fun _ _ _ h => h) (Or.inl ⟨by kernel_rfl, fun w hS => ?_⟩) cW0' ?_
        rotate_left
        · go_simp
          try with_reducible rfl
        show wpAnyH _ _ _ _ _ _ _ (Act.put _ (some 40) _) _
        simp only [Act.put, List.setIfInBounds_toArray, List.set_cons_succ, List.set_cons_zero]
        refine wpAnyH_take (i := 10) (v := ?_) rfl (by kernel_rfl) (by kernel_rfl) (by kernel_rfl) (fun _ _ _ h => h) (Or.inl ⟨by kernel_rfl, fun w hS => ?_⟩) cW0' ?_
        rotate_left
        · go_simp
          try with_reducible rfl
        show wpAnyH _ _ _ _ _ _ _ (Act.put _ (some 41) _) _
        simp only [Act.put, List.setIfInBounds_toArray, List.set_cons_succ, List.set_cons_zero]
        refine wpAnyH_take (i := 12) (v := ?_) rfl (by kernel_rfl) (by kernel_rfl) (by kernel_rfl) (fun _ _ _ h => h) (Or.inl ⟨by kernel_rfl, fun w hS => ?_⟩) cW0' ?_
        rotate_left
        · go_simp
          try with_reducible rfl
        show wpAnyH _ _ _ _ _ _ _ (Act.put _ (some 43) _) _
        simp only [Act.put, List.setIfInBounds_toArray, List.set_cons_succ, List.set_cons_zero]
        refine wpAnyH_take (i := 13) (v := ?_) rfl (by kernel_rfl) (by kernel_rfl) (by kernel_rfl) (fun _ _ _ h => h) (Or.inl ⟨by kernel_rfl, fun w hS => ?_⟩) cW0' ?_
        rotate_left
        · go_simp
          try with_reducible rfl
        show wpAnyH _ _ _ _ _ _ _ (Act.put _ (some 44) _) _
        simp only [Act.put, List.setIfInBounds_toArray, List.set_cons_succ, List.set_cons_zero]
        refine wpAnyH_take (i := 14) (v := ?_) rfl (by kernel_rfl) (by kernel_rfl) (by kernel_rfl) (fun _ _ _ h => h) (Or.inl ⟨by kernel_rfl, fun w hS => ?_⟩) cW0' ?_
        rotate_left
        · go_simp
          try with_reducible rfl
        show wpAnyH _ _ _ _ _ _ _ (Act.put _ (some 45) _) _
        simp only [Act.put, List.setIfInBounds_toArray, List.set_cons_succ, List.set_cons_zero]
        refine wpAnyH_take (i := 15) (v := ?_) rfl (by kernel_rfl) (by kernel_rfl) (by kernel_rfl) (fun _ _ _ h => h) (Or.inl ⟨by kernel_rfl, fun w hS => ?_⟩) cW0' ?_
        rotate_left
        · go_simp
          try with_reducible rfl
        show wpAnyH _ _ _ _ _ _ _ (Act.put _ (some 46) _) _
        simp only [Act.put, List.setIfInBounds_toArray, List.set_cons_succ, List.set_cons_zero]
        refine wpAnyH_take (i := 16) (v := ?_) rfl (by kernel_rfl) (by kernel_rfl) (by kernel_rfl) (fun _ _ _ h => h) (Or.inl ⟨by kernel_rfl, fun w hS => ?_⟩) cW0' ?_
        rotate_left
        · go_simp
          try with_reducible rfl
        show wpAnyH _ _ _ _ _ _ _ (Act.put _ (some 47) _) _
        simp only [Act.put, List.setIfInBounds_toArray, List.set_cons_succ, List.set_cons_zero]
        refine wpAnyH_take (i := 17) (v := ?_) rfl (by kernel_rfl) (by kernel_rfl) (by kernel_rfl) (fun _ _ _ h => h) (Or.inl ⟨by kernel_rfl, fun w hS => ?_⟩) cW0' ?_
        rotate_left
        · go_simp
          try with_reducible rfl
        show wpAnyH _ _ _ _ _ _ _ (Act.put _ (some 48) _) _
        simp only [Act.put, List.setIfInBounds_toArray, List.set_cons_succ, List.set_cons_zero]
        refine wpAnyH_take (i := 18) (v := ?_) rfl (by kernel_rfl) (by kernel_rfl) (by kernel_rfl) (fun _ _ _ h => h) (Or.inl ⟨by kernel_rfl, fun w hS => ?_⟩) cW0' ?_
        rotate_left
        · go_simp
          try with_reducible rfl
        show wpAnyH _ _ _ _ _ _ _ (Act.put _ (some 49) _) _
        simp only [Act.put, List.setIfInBounds_toArray, List.set_cons_succ, List.set_cons_zero]
        refine wpAnyH_all (rs := [11, 19]) (by kernel_rfl) (by simp) ?_
        intro i hi
        have hi' : i = 11 ∨ i = 19 := by simpa using hi
        rcases hi' with rfl | rfl
        · clear hi
          refine wpOp_step rfl (fun K hK => ?_)
          go_simp
          refine hK _ _ ⟨cA0, ?_⟩
          clear hK K
          refine wpAnyH_all (rs := [19]) (by kernel_rfl) (by simp) ?_
          intro i hi
          obtain rfl : i = 19 := by simpa using hi
          clear hi
          refine wpOp_step rfl (fun K hK => ?_)
          go_simp
          refine hK _ _ ⟨cA0, ?_⟩
          clear hK K
          refine wpAnyH_all (rs := [20]) (by kernel_rfl) (by simp) ?_
          intro i hi
          obtain rfl : i = 20 := by simpa using hi
          clear hi
          refine wpOp_step rfl (fun K hK => ?_)
          refine step_append_run rfl (.tmp 42) (.tmp 50) 28 rfl _ _ _ _ rfl rfl hrun2 (hK _ _ ⟨c30, ?_⟩)
          clear hK K
          show wpAnyH _ _ _ _ _ _ _ (Act.put _ (some 51) _) _
          simp only [Act.put, List.setIfInBounds_toArray, List.set_cons_succ, List.set_cons_zero]
          refine wpAnyH_take (i := 21) (v := ?_) rfl (by kernel_rfl) (by kernel_rfl) (by kernel_rfl) (fun _ _ _ h => h) (Or.inl ⟨by kernel_rfl, fun w hS => ?_⟩) c30 ?_
          rotate_left
          · go_simp
            try with_reducible rfl
          show wpAnyH _ _ _ _ _ _ _ (Act.put _ (some 52) _) _
          simp only [Act.put, List.setIfInBounds_toArray, List.set_cons_succ, List.set_cons_zero]
          refine wpAnyH_take (i := 22) (v := ?_) rfl (by kernel_rfl) (by kernel_rfl) (by kernel_rfl) (fun _ _ _ h => h) (Or.inl ⟨by kernel_rfl, fun w hS => ?_⟩) c30 ?_
          rotate_left
          · go_simp
            try with_reducible rfl
          show wpAnyH _ _ _ _ _ _ _ (Act.put _ (some 53) _) _
          simp only [Act.put, List.setIfInBounds_toArray, List.set_cons_succ, List.set_cons_zero]
          refine wpAnyH_all (rs := [23]) (by kernel_rfl) (by simp) ?_
          intro i hi
          obtain rfl : i = 23 := by simpa using hi
          clear hi
          refine wpOp_step rfl (fun K hK => ?_)
          go_simp
          refine hK _ _ ⟨cX0, ?_⟩
          clear hK K
          refine wpAnyH_done (by kernel_rfl) ?_ _
          rw [← hX]
          go_wp2
          go_ret
          exact ⟨by rw [HE.out]; rfl, HD.out⟩
        · clear hi
          refine wpOp_step rfl (fun K hK => ?_)
          go_simp
          refine hK _ _ ⟨cW0', ?_⟩
          clear hK K
          refine wpAnyH_all (rs := [11]) (by kernel_rfl) (by simp) ?_
          intro i hi
          obtain rfl : i = 11 := by simpa using hi
          clear hi
          refine wpOp_step rfl (fun K hK => ?_)
          go_simp
          refine hK _ _ ⟨cA0, ?_⟩
          clear hK K
          refine wpAnyH_all (rs := [20]) (by kernel_rfl) (by simp) ?_
          intro i hi
          obtain rfl : i = 20 := by simpa using hi
          clear hi
          refine wpOp_step rfl (fun K hK => ?_)
          refine step_append_run rfl (.tmp 42) (.tmp 50) 28 rfl _ _ _ _ rfl rfl hrun2 (hK _ _ ⟨c30, ?_⟩)
          clear hK K
          show wpAnyH _ _ _ _ _ _ _ (Act.put _ (some 51) _) _
          simp only [Act.put, List.setIfInBounds_toArray, List.set_cons_succ, List.set_cons_zero]
          refine wpAnyH_take (i := 21) (v := ?_) rfl (by kernel_rfl) (by kernel_rfl) (by kernel_rfl) (fun _ _ _ h => h) (Or.inl ⟨by kernel_rfl, fun w hS => ?_⟩) c30 ?_
          rotate_left
          · go_simp
            try with_reducible rfl
          show wpAnyH _ _ _ _ _ _ _ (Act.put _ (some 52) _) _
          simp only [Act.put, List.setIfInBounds_toArray, List.set_cons_succ, List.set_cons_zero]
          refine wpAnyH_take (i := 22) (v := ?_) rfl (by kernel_rfl) (by kernel_rfl) (by kernel_rfl) (fun _ _ _ h => h) (Or.inl ⟨by kernel_rfl, fun w hS => ?_⟩) c30 ?_
          rotate_left
          · go_simp
            try with_reducible rfl
          show wpAnyH _ _ _ _ _ _ _ (Act.put _ (some 53) _) _
          simp only [Act.put, List.setIfInBounds_toArray, List.set_cons_succ, List.set_cons_zero]
          refine wpAnyH_all (rs := [23]) (by kernel_rfl) (by simp) ?_
          intro i hi
          obtain rfl : i = 23 := by simpa using hi
          clear hi
          refine wpOp_step rfl (fun K hK => ?_)
          go_simp
          refine hK _ _ ⟨cX0, ?_⟩
          clear hK K
          refine wpAnyH_done (by kernel_rfl) ?_ _
          rw [← hX]
          go_wp2
          go_ret
          exact ⟨by rw [HE.out]; rfl, HD.out⟩)

end Go.Proofs.Ytjopmhidldemmaa
