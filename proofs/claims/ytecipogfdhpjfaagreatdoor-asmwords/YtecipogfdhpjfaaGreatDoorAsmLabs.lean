/-
  The contract of package asm's 'labelValues' over the translation: what the labels stand for. No statement is proved here.
-/
import Derived.Test.YtecipogfdhpjfaaGreatDoorAsmAll2
import Derived.Maps.OwnSet
import Derived.WalkSpells
namespace Go.Proofs.YtecipogfdhpjfaaGreatDoor
open Go.RowKit Go.Maps Go.WideMaps

/-- The labels, one after the other; the first line whose label was there before. -/
def labP : List St → Int → (List UInt8 → Option Int) → Nat → Except Nat (List UInt8 → Option Int)
  | [], _, m, _ => .ok m
  | st :: S, nx, m, n => if st.1 ≠ [] ∧ (m st.1).isSome = true then .error n else labP S (if st.2.1 ≠ -1 then nx + 4 else nx) (if st.1 = [] then m else fun x => if x = st.1 then some nx else m x) (n + 1)

/-- A map's datum says this of its keys. -/
def Mp (D : DataW Unit) (m : List UInt8 → Option Int) : Prop := IsMap D ∧ ∀ k, Maps.has D (.string k) = (m k).isSome ∧ ∀ v, m k = some v → D.atKey (.string k) (.lit (.int .i64 0)) = .lit (.int .i64 v)
theorem mp_nil : Mp (.map []) (fun _ => none) := ⟨⟨_, rfl⟩, fun k => ⟨rfl, fun v h => by cases h⟩⟩
theorem mp_put {D : DataW Unit} {m : List UInt8 → Option Int} (h : Mp D m) (k : List UInt8) (v : Int) : Mp (D.put (.string k) (.lit (.int .i64 v))) (fun x => if x = k then some v else m x) := by
  refine ⟨?_, fun x => ?_⟩
  · exact h.1.put _ _
  · by_cases hx : x = k
    · subst hx
      simp only [if_true]
      exact ⟨by rw [has_put_same h.1 (show WideAt.IsKeyLit (.string x) from trivial)]; rfl, fun v' hv => by cases hv; exact atKey_put_same h.1 (show WideAt.IsKeyLit (.string x) from trivial) _ _⟩
    · have hne : (Lit.string x) ≠ (Lit.string k) := fun e => hx (by cases e; rfl)
      simp only [if_neg hx]
      exact ⟨by rw [has_put_other hne]; exact (h.2 x).1, fun v' hv => by rw [atKey_put_other hne]; exact (h.2 x).2 v' hv⟩

theorem Sts.get {w : World} : ∀ {L : List Value} {S : List St} (k : Nat) {st : St}, Sts w L S → S[k]? = some st → ∃ z, L[k * 3]? = some (strV st.1) ∧ L[k * 3 + 1]? = some (.int .i64 st.2.1) ∧ L[k * 3 + 2]? = some z ∧ Toks w z st.2.2
  | x :: y :: z :: L, s :: S, 0, st, h, hk => by
    simp at hk
    subst hk
    exact ⟨z, by simp [h.1], by simp [h.2.1], rfl, h.2.2.1⟩
  | x :: y :: z :: L, s :: S, k + 1, st, h, hk => by
    obtain ⟨z', h1, h2, h3, h4⟩ := Sts.get k h.2.2.2 (by simpa using hk)
    refine ⟨z', ?_, ?_, ?_, h4⟩
    · rw [show (k + 1) * 3 = k * 3 + 1 + 1 + 1 by omega]; simpa using h1
    · rw [show (k + 1) * 3 + 1 = k * 3 + 1 + 1 + 1 + 1 by omega]; simpa using h2
    · rw [show (k + 1) * 3 + 2 = k * 3 + 2 + 1 + 1 + 1 by omega]; simpa using h3
  | [], [], _, _, _, hk => by simp at hk
  | [], _ :: _, _, _, h, _ => h.elim
  | [_], [], _, _, h, _ => h.elim
  | [_], _ :: _, _, _, h, _ => h.elim
  | [_, _], [], _, _, h, _ => h.elim
  | [_, _], _ :: _, _, _, h, _ => h.elim
  | _ :: _ :: _ :: _, [], _, _, h, _ => h.elim

theorem fr_map {w w' : World} {b : Nat} (h : w.grownBy w' (some b)) : Fr (at' b) w w' := (fr_of_grownK h).mono (fun k _ e => (Option.some.inj e : k = b))

theorem law9 : Keyed Tryz.prog 9 := string_keyed Tryz.underlying9
theorem zeroI (w : World) : (zeroValue 3).run Tryz.prog w = .ok (.int .i64 0) w := Tryz.zeroValue3 w

def LabPost (w w' : World) (base : Int) (S : List St) (e : Ending) : Prop :=
  (match labP S base (fun _ => none) 1 with
   | .error n => e = .returned (.tuple #[.map none, .int .i64 (n : Nat), .int .i64 62])
   | .ok m => ∃ bk k D, e = .returned (.tuple #[.map (some bk), .int .i64 0, .int .i64 0]) ∧ w'.ownsMap Tryz.prog 9 (plainElem (H := Unit) Tryz.prog 3) bk k D ∧ Mp D m) ∧ Fr none' w w'

set_option maxRecDepth 100000 in
set_option maxHeartbeats 3200000 in
theorem labels_any (base : Int) (h0 : 0 ≤ base) (h1 : base ≤ 65535) (v : Value) (S : List St) (L : List Value) (B : Nat) (w : World) (hS : S ≠ []) (hO : OwnK 67 3 w B v S.length L) (hT : Sts w L S) (hn : S.length ≤ 4001) (hlen : ∀ st ∈ S, st.1.length ≤ 4000) :
    Calls Tryz.prog 11 #[.int .i64 base, v] w fun e w' => LabPost w w' base S e := by
  obtain ⟨g, cap, cur, rfl, _, hr, hcap, _, hcs, hx⟩ := hO.row (by simpa using hS)
  have HR : Hid (Row w g cur 67) := hr
  have HC : Hid (∀ k st, S[k]? = some st → ∃ z, cur[k * 3]? = some (strV st.1) ∧ cur[k * 3 + 1]? = some (.int .i64 st.2.1) ∧ cur[k * 3 + 2]? = some z ∧ Toks w z st.2.2) := fun k st hk => by
    obtain ⟨z, a1, a2, a3, a4⟩ := hT.get k hk
    exact ⟨z, hx _ _ a1, hx _ _ a2, hx _ _ a3, a4⟩
  have HLEN : Hid (∀ st ∈ S, st.1.length ≤ 4000) := hlen
  have HB : Hid (0 ≤ base ∧ base ≤ 65535) := ⟨h0, h1⟩
  have hmm := @run_makeMap Tryz.prog
  clear hO hT hlen hS hx hr hcs hcap h0 h1
  go_enter Tryz.func11, Tryz.ntmps11
  go_wp2_with fail
  go_loopw [4, 7, 16] (fun mp a b wr => ∃ (k : Nat) (nx : Int) (m : List UInt8 → Option Int) (n : Nat) (D : DataW Unit), k ≤ S.length ∧ mp = .map (some w.heap.size) ∧ b = .int .i64 k ∧ a = .int .i64 nx ∧ 0 ≤ nx ∧ nx ≤ 65535 + 4 * k ∧ labP S base (fun _ => none) 1 = labP (S.drop k) nx m (k + 1) ∧ n ≤ k ∧ wr.ownsMap Tryz.prog 9 (plainElem Tryz.prog 3) w.heap.size n D ∧ Mp D m ∧ Fr none' w wr) (fun _ _ b _ => S.length - (intOf b).toNat)
  case atStart => exact ⟨0, base, _, 0, _, by omega, rfl, rfl, rfl, HB.out.1, by have := HB.out; omega, rfl, by omega, World.ownsMap_made _ _ _ _, mp_nil, (Fr.refl _ _).alloc _⟩
  case round =>
    obtain ⟨k, nx, m, n, D, hk, rfl, rfl, rfl, hn0, hn1, hlab, hnk, hown, hmp, fk⟩ := hrel
    by_cases he : k = S.length
    · subst he
      have tt : decide (S.length < S.length) = false := by simp
      have HL : Hid (labP S base (fun _ => none) 1 = .ok m) := by show _ = _; rw [hlab, List.drop_length]; rfl
      have HM : Hid (Mp D m) := hmp
      have HW : Hid (wr.ownsMap Tryz.prog 9 (plainElem Tryz.prog 3) w.heap.size n D) := hown
      clear hlab hmp hown hk
      go_wp2_with fail
      go_ret3
      refine ⟨?_, fk⟩
      rw [HL.out]
      exact ⟨w.heap.size, n, D, rfl, HW.out, HM.out⟩
    · have hlt : k < S.length := by omega
      obtain ⟨st, hst⟩ : ∃ st, S[k]? = some st := ⟨_, List.getElem?_eq_getElem hlt⟩
      obtain ⟨z, a1, a2, a3, a4⟩ := HC.out k st hst
      have rk := HR.out.keep fk (fun h => h)
      have b1 : wr.cell? ⟨g, k * 3, none⟩ = some (strV st.1) := by rw [rk.cell]; exact a1
      have b2 : wr.cell? ⟨g, k * 3 + 1, none⟩ = some (.int .i64 st.2.1) := by rw [rk.cell]; exact a2
      have b3 : wr.cell? ⟨g, k * 3 + 2, none⟩ = some z := by rw [rk.cell]; exact a3
      obtain ⟨va, vn, vc, rfl⟩ : ∃ a n c, z = .slice a n c := by
        rcases a4 with ⟨_, a, c, h⟩ | ⟨b, off, c, cs, h, _⟩
        · exact ⟨a, 0, c, h⟩
        · exact ⟨_, _, c, h⟩
      have hdrop : S.drop k = st :: S.drop (k + 1) := by
        rw [List.drop_eq_getElem_cons hlt]
        congr 1
        exact (List.getElem?_eq_some_iff.1 hst).2
      rw [hdrop] at hlab
      have tt : decide (k < S.length) = true := by simpa using hlt
      have HK : Hid (k < S.length ∧ S.length ≤ 4001) := ⟨hlt, hn⟩
      have hls : st.1.length ≤ 4000 := HLEN.out st (List.mem_of_getElem? hst)
      simp only [strV] at b1
      obtain ⟨lb, hlb⟩ : ∃ lb : ByteArray, (⟨st.1.toArray⟩ : ByteArray) = lb := ⟨_, rfl⟩
      obtain ⟨op, hop⟩ : ∃ op, st.2.1 = op := ⟨_, rfl⟩
      rw [hlb] at b1
      rw [hop] at b2
      have hlbl : lb.data.toList = st.1 := by rw [← hlb]
      have HLAB : Hid (labP S base (fun _ => none) 1 = labP (st :: S.drop (k + 1)) nx m (k + 1)) := hlab
      have HMP : Hid (Mp D m) := hmp
      have a5 := (Fr.refl none' wr).alloc (.cells #[.string lb, .int .i64 op, .slice va vn vc] 67)
      have ownW := hown.alloc (.cells #[.string lb, .int .i64 op, .slice va vn vc] 67)
      have F5 := fk.trans a5
      have rbx := row_alloc wr #[.string lb, .int .i64 op, .slice va vn vc] 67
      have hbx : ¬ at' w.heap.size wr.heap.size := fun e => by have e' : wr.heap.size = w.heap.size := e; have := hown.lt; omega
      have HST1 : Hid (lb.data.toList = st.1 ∧ st.2.1 = op) := ⟨hlbl, hop⟩
      have hnx : nx ≤ 100000 := by omega
      clear a1 a2 a3 a4 hst hdrop rk hk hlab hmp hop hlb
      by_cases hl0 : st.1 = []
      · have he0 : lb.toList.isEmpty = true := by rw [empty_iff, hlbl, hl0]; rfl
        have HL0 : Hid (st.1 = []) := hl0
        clear hl0 hlbl hown
        by_cases ho : op = -1
        · have tto : (op != -1) = false := by simpa using ho
          have HOP2 : Hid (¬ st.2.1 ≠ -1) := by show ¬ _; rw [HST1.out.2]; simpa using ho
          clear ho
          go_wp2_with fail
          go_roundw
          case rel =>
            refine ⟨k + 1, nx, m, n, D, by have := HK.out; omega, rfl, by first | rfl | go_num, by first | rfl | go_num, by omega, by omega, ?_, by omega, ownW, HMP.out, F5⟩
            rw [HLAB.out]
            simp only [labP]
            rw [if_neg (fun h => h.1 HL0.out), if_neg HOP2.out, if_pos HL0.out]
          case measure => have := HK.out; simp [intOf]; omega
        · have tto : (op != -1) = true := by simpa using ho
          have HOP2 : Hid (st.2.1 ≠ -1) := by show _ ≠ _; rw [HST1.out.2]; exact ho
          clear ho
          go_wp2_with fail
          go_roundw
          case rel =>
            refine ⟨k + 1, nx + 4, m, n, D, by have := HK.out; omega, rfl, by first | rfl | go_num, by first | rfl | go_num, by omega, by omega, ?_, by omega, ownW, HMP.out, F5⟩
            rw [HLAB.out]
            simp only [labP]
            rw [if_neg (fun h => h.1 HL0.out), if_pos HOP2.out, if_pos HL0.out]
          case measure => have := HK.out; simp [intOf]; omega
      · have he0 : lb.toList.isEmpty = false := by rw [empty_iff, hlbl]; simpa using hl0
        have HL0 : Hid (st.1 ≠ []) := hl0
        have hkey : keyOf Tryz.prog 9 (.string lb) = some (.string lb.data.toList) := keyOf_string_mk Tryz.underlying9 (by rw [Lib.size_eq, hlbl]; simp only [maxLen]; omega)
        rw [hlbl] at hkey
        obtain ⟨hh, hhas⟩ : ∃ hh, (m st.1).isSome = hh := ⟨_, rfl⟩
        have HHAS : Hid (Maps.has D (.string st.1) = hh) := by show _ = _; rw [(HMP.out.2 st.1).1]; exact hhas
        have HSOME : Hid ((m st.1).isSome = hh) := hhas
        clear hl0 hlbl hown hhas
        cases hh
        · have COND : Hid (¬ (st.1 ≠ [] ∧ (m st.1).isSome = true)) := fun h => by have := HSOME.out; rw [h.2] at this; cases this
          by_cases ho : op = -1
          · have tto : (op != -1) = false := by simpa using ho
            have HOP2 : Hid (¬ st.2.1 ≠ -1) := by show ¬ _; rw [HST1.out.2]; simpa using ho
            clear ho
            go_wp2_with (first | (at_lookup; refine wpList_lookup_own_ok_int _ rfl _ _ 35 rfl 9 3 .i64 law9 Tryz.underlying35 Tryz.underlying3 (zeroI _) w.heap.size n D rfl (by exact ownW) _ _ rfl hkey ?_; intro cc hat hwc; rw [HHAS.out]) | (at_mapUpdate; refine wpList_mapUpdate_own _ rfl _ _ _ 35 rfl 9 3 law9 Tryz.underlying35 _ w.heap.size n _ rfl (by exact ownW) (by unfold maxLen; have := HK.out; omega) _ _ _ rfl rfl hkey _ [] (plainElem_int Tryz.underlying3 (WalkArith.wf_i64 (by omega))) ?_; intro w6 own6 g6; obtain ⟨p0, p1, p2⟩ := sbox_cells (rbx.keep (fr_map g6) hbx); have F6 := F5.newer (b := w.heap.size) (fr_map g6) (Nat.le_refl _); have MP6 := mp_put HMP.out st.1 nx))
            go_roundw
            case rel =>
              refine ⟨k + 1, nx, _, (n + 1), _, by have := HK.out; omega, rfl, by first | rfl | go_num, by first | rfl | go_num, by omega, by omega, ?_, by omega, own6, MP6, F6⟩
              rw [HLAB.out]
              simp only [labP]
              rw [if_neg COND.out, if_neg HOP2.out, if_neg HL0.out]
            case measure => have := HK.out; simp [intOf]; omega
          · have tto : (op != -1) = true := by simpa using ho
            have HOP2 : Hid (st.2.1 ≠ -1) := by show _ ≠ _; rw [HST1.out.2]; exact ho
            clear ho
            go_wp2_with (first | (at_lookup; refine wpList_lookup_own_ok_int _ rfl _ _ 35 rfl 9 3 .i64 law9 Tryz.underlying35 Tryz.underlying3 (zeroI _) w.heap.size n D rfl (by exact ownW) _ _ rfl hkey ?_; intro cc hat hwc; rw [HHAS.out]) | (at_mapUpdate; refine wpList_mapUpdate_own _ rfl _ _ _ 35 rfl 9 3 law9 Tryz.underlying35 _ w.heap.size n _ rfl (by exact ownW) (by unfold maxLen; have := HK.out; omega) _ _ _ rfl rfl hkey _ [] (plainElem_int Tryz.underlying3 (WalkArith.wf_i64 (by omega))) ?_; intro w6 own6 g6; obtain ⟨p0, p1, p2⟩ := sbox_cells (rbx.keep (fr_map g6) hbx); have F6 := F5.newer (b := w.heap.size) (fr_map g6) (Nat.le_refl _); have MP6 := mp_put HMP.out st.1 nx))
            go_roundw
            case rel =>
              refine ⟨k + 1, nx + 4, _, (n + 1), _, by have := HK.out; omega, rfl, by first | rfl | go_num, by first | rfl | go_num, by omega, by omega, ?_, by omega, own6, MP6, F6⟩
              rw [HLAB.out]
              simp only [labP]
              rw [if_neg COND.out, if_pos HOP2.out, if_neg HL0.out]
            case measure => have := HK.out; simp [intOf]; omega
        · go_wp2_with (first | (at_lookup; refine wpList_lookup_own_ok_int _ rfl _ _ 35 rfl 9 3 .i64 law9 Tryz.underlying35 Tryz.underlying3 (zeroI _) w.heap.size n D rfl (by exact ownW) _ _ rfl hkey ?_; intro cc hat hwc; rw [HHAS.out]))
          go_ret3
          refine ⟨?_, F5⟩
          rw [HLAB.out]
          simp only [labP]
          rw [if_pos ⟨HL0.out, HSOME.out⟩]
          first | rfl | (simp; omega)

end Go.Proofs.YtecipogfdhpjfaaGreatDoor
