/-
  The contract of package asm's 'parseAll' over the translation. No statement is proved here.
-/
import Derived.Test.YtecipogfdhpjfaaGreatDoorAsmAll
namespace Go.Proofs.YtecipogfdhpjfaaGreatDoor
open Go.RowKit

theorem allP_ok : ∀ (l : List (List UInt8)) (n : Nat), (∀ s ∈ l, (parseP s).1 = 0) → allP l n = .ok (l.map (fun s => (parseP s).2))
  | [], _, _ => rfl
  | s :: r, n, h => by
    simp only [allP]
    rw [if_neg (by rw [h s (by simp)]; simp), allP_ok r (n + 1) (fun x hx => h x (by simp [hx]))]
    rfl
theorem allP_err : ∀ (l : List (List UInt8)) (n k : Nat) (s : List UInt8), l[k]? = some s → (∀ x ∈ l.take k, (parseP x).1 = 0) → (parseP s).1 ≠ 0 → allP l n = .error (n + k, (parseP s).1)
  | [], n, k, s, h, _, _ => by simp at h
  | x :: r, n, 0, s, h, _, he => by
    simp at h
    subst h
    simp only [allP]
    rw [if_pos he]
    rfl
  | x :: r, n, k + 1, s, h, hk, he => by
    simp only [allP]
    rw [if_neg (by rw [hk x (by simp)]; simp), allP_err r (n + 1) k s (by simpa using h) (fun y hy => hk y (by simp [hy])) he]
    simp only [Except.error.injEq, Prod.mk.injEq, and_true]
    omega

def AllPost (w w' : World) (s : List UInt8) (e : Ending) : Prop :=
  (match allP (splitB s) 1 with
   | .error (n, k) => e = .returned (.tuple #[.slice none 0 0, .int .i64 (n : Nat), .int .i64 (k : Nat)])
   | .ok S => ∃ v L, e = .returned (.tuple #[v, .int .i64 0, .int .i64 0]) ∧ OwnK 67 3 w' w.heap.size v S.length L ∧ Sts w' L S) ∧ Fr none' w w'

set_option maxRecDepth 100000 in
set_option maxHeartbeats 3200000 in
theorem parseall_any (s : ByteArray) (hs : s.size ≤ 4000) (w : World) (hE : Env w) : Calls Tryz.prog 10 #[.string s] w fun e w' => AllPost w w' s.data.toList e := by
  have hS := lines_any s hs w hE
  have HE : Hid (Env w) := hE
  have HS : Hid (s.size ≤ 4000) := hs
  clear hE
  go_enter Tryz.func10, Tryz.ntmps10
  go_wp2_with fail
  refine hS.mono ?_
  rintro e w1 ⟨Lb, hLb, rfl, row1, f1⟩
  have hcnt : Lb.length ≤ 4001 := by
    have := split_count s.data.toList
    rw [← hLb, List.length_map, ← Lib.size_eq] at this
    omega
  have hsz : ∀ x ∈ Lb, x.size ≤ 4000 := fun x hx => by
    have := split_le s.data.toList x.data.toList (by rw [← hLb]; exact List.mem_map_of_mem hx)
    rw [← Lib.size_eq, ← Lib.size_eq] at this
    omega
  have HLB : Hid (Lb.map (·.data.toList) = splitB s.data.toList) := hLb
  have HSZ : Hid (∀ x ∈ Lb, x.size ≤ 4000) := hsz
  have HR1 : Hid (Row w1 w.heap.size (Lb.map Value.string).toArray 9) := row1
  have HF1 : Hid (Fr none' w w1) := f1
  have hz := f1.size
  clear hS hLb hsz row1 f1 hs
  go_wp2_with fail
  go_loopw [2, 12] (fun a b wr => ∃ (k : Nat) (L : List Value), k ≤ Lb.length ∧ b = .int .i64 k ∧ (∀ x ∈ (splitB s.data.toList).take k, (parseP x).1 = 0) ∧ OwnK 67 3 wr w.heap.size a k L ∧ Sts wr L (((splitB s.data.toList).take k).map (fun x => (parseP x).2)) ∧ Fr none' w wr ∧ Row wr w.heap.size (Lb.map Value.string).toArray 9) (fun _ b _ => Lb.length - (intOf b).toNat)
  case atStart => exact ⟨0, [], by omega, rfl, by simp, ownk_nil _ _ _ _, by simp [Sts], HF1.out, HR1.out⟩
  case round =>
    obtain ⟨k, L, hk, rfl, hok, ow, st, fk, rk⟩ := hrel
    by_cases he : k = Lb.length
    · subst he
      have tt : decide (Lb.length < Lb.length) = false := by simp
      have hall : (splitB s.data.toList).take Lb.length = splitB s.data.toList := by rw [← HLB.out]; exact List.take_of_length_le (by simp)
      rw [hall] at hok st
      have HA : Hid (allP (splitB s.data.toList) 1 = .ok ((splitB s.data.toList).map (fun x => (parseP x).2))) := allP_ok _ _ hok
      have HST : Hid (Sts wr L ((splitB s.data.toList).map (fun x => (parseP x).2))) := st
      have hlen : ((splitB s.data.toList).map (fun x => (parseP x).2)).length = Lb.length := by rw [List.length_map, ← HLB.out, List.length_map]
      have HO : Hid (OwnK 67 3 wr w.heap.size u2 ((splitB s.data.toList).map (fun x => (parseP x).2)).length L) := by show OwnK _ _ _ _ _ _ _; rw [hlen]; exact ow
      clear hall hok st hk ow rk hlen
      go_wp2_with fail
      go_ret3
      refine ⟨?_, fk⟩
      rw [HA.out]
      exact ⟨u2, L, rfl, HO.out, HST.out⟩
    · have hlt : k < Lb.length := by omega
      obtain ⟨x, hx⟩ : ∃ x, Lb[k]? = some x := ⟨_, List.getElem?_eq_getElem hlt⟩
      have hxl : (splitB s.data.toList)[k]? = some x.data.toList := by rw [← HLB.out]; simp [hx]
      have cx : wr.cell? ⟨w.heap.size, k, none⟩ = some (.string x) := by rw [rk.cell]; simp [hx]
      have hP := fun w' (f : Fr none' wr w') => parse_any x (HSZ.out x (List.mem_of_getElem? hx)) w' ((HE.out.keep fk).keep f)
      have HXL : Hid ((splitB s.data.toList)[k]? = some x.data.toList) := hxl
      have HOK : Hid (∀ x ∈ (splitB s.data.toList).take k, (parseP x).1 = 0) := hok
      have HST : Hid (Sts wr L (((splitB s.data.toList).take k).map (fun x => (parseP x).2))) := st
      have HK : Hid (k < Lb.length ∧ Lb.length ≤ 4001) := ⟨hlt, hcnt⟩
      have tt : decide (k < Lb.length) = true := by simpa using hlt
      clear hok st hk hx hxl he
      go_wp2_with fail
      refine (hP _ (Fr.refl _ _)).mono ?_
      rintro e w2 ⟨hh | hh, f2⟩
      · obtain ⟨hne, rfl⟩ := hh
        obtain ⟨er, her⟩ : ∃ er, (parseP x.data.toList).1 = er := ⟨_, rfl⟩
        have HER : Hid ((parseP x.data.toList).1 = er ∧ er ≠ 0) := ⟨her, by rw [← her]; exact hne⟩
        rw [her] at hne ⊢
        have t1 : ((er : Int) != 0) = true := by simp; omega
        have y1 : (k : Int) ≤ 4001 := by omega
        clear her hne hP
        go_wp2_with fail
        go_ret3
        refine ⟨?_, (fk.trans f2).alloc _⟩
        rw [allP_err _ 1 k x.data.toList HXL.out HOK.out (by rw [HER.out.1]; exact HER.out.2), HER.out.1]
        first | rfl | (simp; omega)
      · obtain ⟨h0, v3, rfl, T3⟩ := hh
        obtain ⟨lb, hlb⟩ : ∃ lb : ByteArray, (⟨(parseP x.data.toList).2.1.toArray⟩ : ByteArray) = lb := ⟨_, rfl⟩
        obtain ⟨op, hop⟩ : ∃ op, (parseP x.data.toList).2.2.1 = op := ⟨_, rfl⟩
        simp only [strV]
        rw [hlb, hop]
        have HLB2 : Hid (Value.string lb = strV (parseP x.data.toList).2.1) := by show _ = _; rw [← hlb]
        have HOP : Hid ((parseP x.data.toList).2.2.1 = op) := hop
        have H0 : Hid ((parseP x.data.toList).1 = 0) := h0
        obtain ⟨va, vn, vc, hv3⟩ : ∃ a n c, v3 = .slice a n c := by
          rcases T3 with ⟨_, a, c, h⟩ | ⟨b, off, c, cs, h, _⟩
          · exact ⟨a, 0, c, h⟩
          · exact ⟨_, _, c, h⟩
        have HT3 : Hid (Toks w2 v3 (parseP x.data.toList).2.2.2) := T3
        subst hv3
        have o2 := ow.keep0 f2
        have F2 := fk.trans f2
        have R2 : Hid (Row w2 w.heap.size (Lb.map Value.string).toArray 9) := rk.keep f2 (fun h => h)
        have a2 := (Fr.refl none' w2).alloc (.cells #[.string lb, .int .i64 op, .slice va vn vc] 67)
        have o3 := o2.keep0 a2
        have hB := (F2.trans a2).size
        have r2 := row_alloc w2 #[.string lb, .int .i64 op, .slice va vn vc] 67
        obtain ⟨g0, g1, g2⟩ := sbox_cells r2
        clear hlb hop h0 hP T3
        go_wp2_with (first | (at_builtin; refine wpList_st rfl _ _ rfl rfl _ _ _ _ k _ L rfl rfl (by simp) w.heap.size (by exact hB) (by exact o3) (by have := HK.out; omega) (by simp [Value.oneCell']) ?_; intro v4 w4 g4 o4))
        go_roundw
        case rel =>
          have hT4 : ∀ v l, Toks w2 v l → Toks w4 v l := fun v l h => (h.keep a2).grow o3 g4
          have hsn : (splitB s.data.toList).take (k + 1) = (splitB s.data.toList).take k ++ [x.data.toList] := by rw [List.take_add_one, HXL.out]; rfl
          refine ⟨k + 1, _, by have := HK.out; omega, by first | rfl | go_num, ?_, o4, ?_, (F2.trans a2).ownK g4 o3, (R2.out.keep a2 (fun h => h)).keep g4 (o3.apart (R2.out.keep a2 (fun h => h)) (by decide))⟩
          · rw [hsn]
            intro y hy
            rcases List.mem_append.1 hy with hy | hy
            · exact HOK.out y hy
            · simp at hy; subst hy; exact H0.out
          · rw [hsn, List.map_append]
            exact ((HST.out.keep (fun v l h => h.keep f2)).keep hT4).snoc HLB2.out (by rw [HOP.out]) (hT4 _ _ HT3.out)
        case measure => have := HK.out; simp [intOf]; omega

end Go.Proofs.YtecipogfdhpjfaaGreatDoor
