/-
  The document's Add over the translation. No statement is proved here.
-/
import Derived.Test.YtjopmhidldemmaaCdtRefA
namespace Go.Proofs.Ytjopmhidldemmaa
open Go.RowKit Go.Maps Go.WideMaps

def raddE (L : List On) (a : Rf) : Int := if fdR a L = none then 0 else 130
def raddL (L : List On) (a : Rf) : List On := if fdR a L = none then L ++ [⟨a, -1, [], false⟩] else L
def raddR (L : List On) (ro : List Nat) (a : Rf) : List Nat := if fdR a L = none then L.length :: ro else ro

set_option maxRecDepth 100000 in
set_option maxHeartbeats 2000000 in
theorem radd_any (w : World) (B r : Nat) (q : Qr) (L : List On) (ro : List Nat) (h : IsR w B r q L ro) (a : Rf) (hsm : L.length + 1 ≤ 1000) (hro : ro.length ≤ 10000) :
    Calls Try.prog 17 #[pv r, rfV a] w fun e w' => e = .returned (.int .i64 (raddE L a)) ∧ ChgR w B r w' (raddL L a) (raddR L ro a) := by
  have f1 := (Fr.refl none' w).alloc (.cells #[.int .i64 a.n, .int .i64 a.i] 33)
  have ra := row_alloc w #[.int .i64 a.n, .int .i64 a.i] 33
  have h1 := h.keep0 f1
  have HH : Hid _ := ⟨h⟩
  clear h
  go_enter Try.func17, Try.ntmps17
  go_wp2_with fail
  refine (find_any _ B r q L ro h1 a).mono ?_
  rintro e w1 ⟨rfl, f2⟩
  replace h1 := h1.keep0 f2
  replace ra := ra.keep f2 (fun h => h)
  replace f1 := f1.trans f2
  clear f2
  cases hfa : fdR a L with
  | some k =>
    rw [fdI_pos hfa]
    have hk0 : decide (0 ≤ (k : Int)) = true := decide_eq_true (by omega)
    go_wp2
    go_ret
    exact ⟨by simp [raddE, hfa], by simp only [raddL, raddR, hfa]; exact ChgR.same HH.out f1⟩
  | none =>
    rw [fdI_neg hfa]
    -- the first store
    obtain ⟨V, hV⟩ : ∃ V, V = (w1.alloc (.cells #[.int .i64 a.n, .int .i64 a.i, .int .i64 (-1), .slice none 0 0, .bool false] 64)).drew := ⟨_, rfl⟩
    have fV : Fr none' w1 V := by rw [hV]; exact ((Fr.refl none' w1).alloc _).drew
    have rV : Row V w1.heap.size #[.int .i64 a.n, .int .i64 a.i, .int .i64 (-1), .slice none 0 0, .bool false] 64 := by rw [hV]; exact row_alloc w1 _ _
    have hV1 := h1.keep0 fV
    have hBV : B ≤ V.heap.size := Nat.le_of_lt (Nat.lt_of_le_of_lt hV1.hi hV1.row.lt)
    obtain ⟨v2, w2, hrun1, f2, o2⟩ := append_on (o := ⟨a, -1, [], false⟩) (K := updV q.K L.length (.slice none 0 0)) hBV (by
      rw [flatO_congr (K := updV q.K L.length (.slice none 0 0)) (K' := q.K) (i := 0) (L := L) (fun j _ hj => by unfold updV; rw [if_neg (by omega)])]
      exact hV1.own) (by omega) (by unfold updV; rw [if_pos rfl]) rV
    obtain ⟨W, hW⟩ : ∃ W, W = w2.setCell ⟨r, 0, none⟩ v2 := ⟨_, rfl⟩
    obtain ⟨hI, hF⟩ := h1.push fV f2 rfl hsm o2 hW
    obtain ⟨g2, cap2, cur2, hv2, _⟩ := o2.row (by simp)
    have rw2 := hV1.row.keep f2 (fun e => hV1.nb e)
    have c20 : w2.cell? ⟨r, 0, none⟩ = some q.v := rw2.cell 0
    have z20 := rw2.frozen 0
    -- the second
    obtain ⟨U, hU⟩ : ∃ U, U = (W.alloc (.cells #[.int .i64 (L.length : Int)] 3)).drew := ⟨_, rfl⟩
    have fU : Fr none' W U := by rw [hU]; exact ((Fr.refl none' W).alloc _).drew
    have hIU := hI.keep0 fU
    have hBW : B ≤ W.heap.size := Nat.le_of_lt (Nat.lt_of_le_of_lt hI.hi hI.row.lt)
    have kU : Ks U B (.slice (some ⟨W.heap.size, 0, none⟩) 1 1) [L.length] := by rw [hU]; exact (ks_one W B L.length hBW).keep0 ((Fr.refl none' _).drew)
    obtain ⟨v3, w3, hrun2, f3, k3⟩ := append_ks (Nat.le_trans hBW fU.size) kU hIU.rts (by simp) (by omega)
    obtain ⟨X, hX⟩ : ∃ X, X = w3.setCell ⟨r, 1, none⟩ v3 := ⟨_, rfl⟩
    obtain ⟨hI3, hF3⟩ := hI.roots fU f3 (fun k hk => by simp [Value.ownBlock] at hk; omega) k3 hX
    obtain ⟨g3, cap3, cur3, hv3, _⟩ := k3.row (by simp)
    have rw3 := hIU.row.keep f3 (fun e => by have := own_ne kU hIU.row (by decide); exact this e)
    have c31 : w3.cell? ⟨r, 1, none⟩ = some q.u := rw3.cell 1
    have z31 := rw3.frozen 1
    obtain ⟨ua, ucap, hqu, _⟩ := h1.rts.cells
    have HD : Hid (ChgR w B r X (raddL L a) (raddR L ro a)) := by
      refine ⟨?_⟩
      simp only [raddL, raddR, hfa, if_true]
      exact ChgR.of HH.out hI3 (((f1.mono (fun _ _ h => h.elim)).trans hF).trans (hF3.mono (fun k _ e => Or.inl e)))
    have a0 := ra.cell 0
    have a1 := ra.cell 1
    have c0 := h1.c0
    have cW0 := hI.c0
    have cW1 := hI.c1
    have cU1 : (W.alloc (.cells #[.int .i64 (L.length : Int)] 3)).cell? ⟨r, 1, none⟩ = some q.u := (hI.row.alloc _).cell 1
    have c0V : (w1.alloc (.cells #[.int .i64 a.n, .int .i64 a.i, .int .i64 (-1), .slice none 0 0, .bool false] 64)).cell? ⟨r, 0, none⟩ = some q.v := (h1.row.alloc _).cell 0
    obtain ⟨va, vcap, hqv, _⟩ := h1.form
    rw [hv2] at hrun1 cW0 hW
    rw [hv3] at hrun2 hX
    rw [hqu] at hrun2 c31 cW1 cU1
    rw [hqv] at hrun1 c0 c20 c0V
    have hla : (L ++ [⟨a, -1, [], false⟩] : List On).length = L.length + 1 := by simp
    have hlb : ([L.length] ++ ro : List Nat).length = ro.length + 1 := by simp
    rw [hla] at hrun1 hW cW0
    rw [hlb] at hrun2 hX
    rw [hV] at hrun1
    rw [hU] at hrun2
    have hsub : IntKind.i64.wrap (L.length : Int) = (L.length : Int) := by
      simp [IntKind.wrap, IntKind.bits, IntKind.signed]
      omega
    clear h1 hI hIU hI3 hF hF3 ra rV hV1 kU k3 o2 f2 f3 fV fU rw2 rw3 hqu hqv hv2 hv3 hV hU HH f1 hBV hBW hla hlb
    generalize L.length = N at *
    go_wp2_with fail
    go_region_law (refine step_append_run rfl (.tmp 15) (.tmp 18) 27 rfl _ _ _ _ rfl rfl hrun1 ?_)
    all_goals rw [← hW]
    all_goals clear hW c0 c0V c20 z20 hrun1 a0 a1
    all_goals go_wp2_with fail
    all_goals go_region_law (refine step_append_run rfl (.tmp 29) (.tmp 33) 28 rfl _ _ _ _ rfl rfl hrun2 ?_)
    all_goals rw [← hX]
    all_goals go_wp2
    all_goals go_ret
    all_goals exact ⟨by simp [raddE, hfa], HD.out⟩

end Go.Proofs.Ytjopmhidldemmaa
