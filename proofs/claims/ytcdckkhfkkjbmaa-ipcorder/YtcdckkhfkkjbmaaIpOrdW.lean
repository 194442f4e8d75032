/-
  The walk of IpcOrder. No statement is proved here.
-/
import Derived.Test.YtcdckkhfkkjbmaaIpOrdA
import Derived.Test.YtcdckkhfkkjbmaaIpDel
namespace Go.Proofs.Ytcdckkhfkkjbmaa
open Go.RowKit Go.Maps Go.WideMaps

/-- What both lists' cells say, wherever they lie. -/
def Lst (w : World) (ga gb : Nat) (C : List Sn) : Prop := ∀ k c, C[k]? = some c → w.cell? ⟨ga, k, none⟩ = some (.int .i64 c.1) ∧ ∀ j, j < 7 → w.cell? ⟨gb, k * 7 + j, none⟩ = (msL c.2)[j]?
theorem Lst.keep {T : Nat → Prop} {w w' : World} {ga gb : Nat} {C : List Sn} (h : Lst w ga gb C) (f : Fr T w w') (ha : ¬ T ga) (hb : ¬ T gb) : Lst w' ga gb C := fun k c hk => by
  obtain ⟨h1, h2⟩ := h k c hk
  refine ⟨cell_keep f h1 ha, fun j hj => ?_⟩
  have := h2 j hj
  rw [List.getElem?_eq_getElem (by exact hj)] at this ⊢
  exact cell_keep f this hb
theorem flat_at : ∀ (C : List Sn) (k : Nat) (c : Sn), C[k]? = some c → ∀ j, j < 7 → (C.flatMap fun c => msL c.2)[k * 7 + j]? = (msL c.2)[j]?
  | [], k, c, h, j, hj => by simp at h
  | y :: C, 0, c, h, j, hj => by
    simp at h; subst h
    rw [List.flatMap_cons, Nat.zero_mul, Nat.zero_add, List.getElem?_append_left (by exact hj)]
  | y :: C, k + 1, c, h, j, hj => by
    rw [List.flatMap_cons, List.getElem?_append_right (by show 7 ≤ _; omega)]
    have := flat_at C k c (by simpa using h) j hj
    rw [← this]
    congr 1
    show (k + 1) * 7 + j - 7 = _
    omega
/-- A list of the law's own as a slice. -/
theorem own_sl {w : World} {e : TypeId} {k n B : Nat} {v : Value} {xs : List Value} (h : w.ownsRow B e k v n xs) : ∃ (a : Option Addr) (c : Nat), v = .slice a n c ∧ (n ≠ 0 → ∃ g, a = some ⟨g, 0, none⟩ ∧ B ≤ g ∧ ∀ j, j < n * k → w.cell? ⟨g, j, none⟩ = xs[j]?) := by
  obtain ⟨_, h | ⟨g, c, cur, hv, hb, hg, hc, hm, hs, ht⟩⟩ := h
  · obtain ⟨rfl, rfl⟩ := h
    exact ⟨none, 0, rfl, fun h => absurd rfl h⟩
  · refine ⟨_, c, hv, fun _ => ⟨g, rfl, hb, fun j hj => ?_⟩⟩
    rw [(show Row w g cur _ from hg).cell, ← ht, List.getElem?_take, if_pos hj]
    simp
/-- Both lists as slices. -/
theorem cam_lst {w0 w : World} {b : Nat} {ep : Int} {va vb : Value} {C : List Sn} (h : Cam w0 w b ep va vb C) : ∃ (aa ab : Option Addr) (ca cb : Nat), va = .slice aa C.length ca ∧ vb = .slice ab C.length cb ∧ (C ≠ [] → ∃ ga gb, aa = some ⟨ga, 0, none⟩ ∧ ab = some ⟨gb, 0, none⟩ ∧ Lst w ga gb C) := by
  obtain ⟨aa, ca, e1, h1⟩ := own_sl h.ra
  obtain ⟨ab, cb, e2, h2⟩ := own_sl h.rb
  refine ⟨aa, ab, ca, cb, e1, e2, fun hne => ?_⟩
  have hn : C.length ≠ 0 := fun e => hne (List.length_eq_zero_iff.1 e)
  obtain ⟨ga, q1, _, q2⟩ := h1 hn
  obtain ⟨gb, p1, _, p2⟩ := h2 hn
  refine ⟨ga, gb, q1, p1, fun k c hk => ?_⟩
  have hlt : k < C.length := (List.getElem?_eq_some_iff.1 hk).1
  refine ⟨?_, fun j hj => ?_⟩
  · rw [q2 k (by omega), List.getElem?_map, hk]
    rfl
  · rw [p2 (k * 7 + j) (by omega)]
    exact flat_at C k c hk j hj

theorem Cam.keep0 {w0 w w' : World} {b : Nat} {ep : Int} {va vb : Value} {C : List Sn} (h : Cam w0 w b ep va vb C) (f : Fr none' w w') : Cam w0 w' b ep va vb C := h.fro (h.ix.keep0 f) (f.mono (fun _ _ h => h.elim))

set_option maxRecDepth 100000 in
set_option maxHeartbeats 4000000 in
theorem order_any (a0 : Option Addr) (len cap : Nat) (a1 : Option Addr) (len1 cap1 : Nat) (ep : Int) (W : World) (hl : len ≤ 9223372036854775807) (hA : ∃ A, Nums W a0 len A) (hl1 : len1 ≤ 9223372036854775807) (hM : ∃ M, Mss W a1 len1 M) (he64 : I64 ep) :
    Calls Try.prog 5 #[.slice a0 len cap, .slice a1 len1 cap1, .int .i64 ep] W fun e W' => e = .returned (.bool true) ∧ Below W.heap.size W W' := by
  obtain ⟨A, hA⟩ := hA
  obtain ⟨M, hM⟩ := hM
  have HA : Hid (Nums W a0 len A) := hA
  have HM : Hid (Mss W a1 len1 M) := hM
  clear hA hM
  have lok : (len : Int) ≤ 9223372036854775807 := by omega
  have lok1 : (len1 : Int) ≤ 9223372036854775807 := by omega
  cases hne : numB ep with
  | false =>
    have HB : Hid (ep < 0 ∨ 1023 < ep) := by
      show ep < 0 ∨ 1023 < ep
      have : ¬ numB ep = true := by simp [hne]
      rw [num_iff] at this
      omega
    clear hne
    go_enter Try.func5, Try.ntmps5
    go_wp2_with fail
    refine (awake_any W).mono ?_
    rintro e w1 ⟨rfl, F0⟩
    go_wp2_with fail
    refine (xnew w1).mono ?_
    rintro e w2 ⟨b, rfl, P⟩
    have HF : Hid (Fr none' W w2) := F0.trans P.old
    clear F0 P HA HM
    by_cases h1 : ep < 0
    · have d1 : decide (ep < 0) = true := decide_eq_true h1
      go_wp2_with fail
      go_ret
      exact ⟨rfl, bel_of' HF.out⟩
    · have d1 : decide (ep < 0) = false := decide_eq_false h1
      have h2 : 1023 < ep := by have := HB.out; omega
      have d2 : decide (1023 < ep) = true := decide_eq_true h2
      go_wp2_with fail
      go_ret
      exact ⟨rfl, bel_of' HF.out⟩
  | true =>
    have he := num_iff.1 hne
    have d1 : decide (ep < 0) = false := decide_eq_false (by omega)
    have d2 : decide (1023 < ep) = false := decide_eq_false (by omega)
    have z64 : I64 0 := i64s (by omega) (by omega)
    go_enter Try.func5, Try.ntmps5
    go_wp2_with fail
    refine (awake_any W).mono ?_
    rintro e w1 ⟨rfl, F0⟩
    go_wp2_with fail
    refine (xnew w1).mono ?_
    rintro e w2 ⟨b, rfl, P⟩
    have HF : Hid (Fr none' W w1) := F0
    rw [ord_0 ep] at P
    have HP : Hid (∃ C, Cam w1 w2 b ep (.slice none 0 0) (.slice none 0 0) C) := ⟨[], P.less (fun k hk => by rcases hk with hk | hk <;> simp [Value.ownBlock] at hk), ⟨rfl, Or.inl ⟨rfl, rfl⟩⟩, ⟨rfl, Or.inl ⟨rfl, rfl⟩⟩, ⟨List.Pairwise.nil, by simp, by simp⟩⟩
    clear F0 P he
    go_upto_block 0 with fail
    go_cut [9, 10, 11] from 42 to 103 (fun va vb i wc => Hid (∃ C, Cam w1 wc b ep va vb C))
    case first =>
      go_wp2_with fail
      go_loopw [9, 10, 11] (fun va vb i wr => ∃ k : Nat, k ≤ len ∧ k ≤ len1 ∧ k ≤ 20 ∧ i = .int .i64 (k : Int) ∧ Hid (∃ C, Cam w1 wr b ep va vb C)) (fun _ _ i _ => 20 - (intOf i).toNat)
      case atStart => exact ⟨0, by omega, by omega, by omega, rfl, HP⟩
      case round =>
        obtain ⟨k, hk1, hk2, hk3, rfl, HI⟩ := hrel
        clear HP
        by_cases hlt : k < len
        · have uk1 : decide ((k : Int) < (len : Int)) = true := decide_eq_true (by omega)
          by_cases hlt1 : k < len1
          · have uk2 : decide ((k : Int) < (len1 : Int)) = true := decide_eq_true (by omega)
            by_cases hlt2 : k < 20
            · have uk3 : decide ((k : Int) < 20) = true := decide_eq_true (by omega)
              have k20 : (k : Int) ≤ 20 := by omega
              obtain ⟨C, hC⟩ := HI.out
              obtain ⟨g, o, rfl, ak, okx⟩ := (HA.out.keep' (HF.out.trans hC.ix.old)) k hlt
              have c0 := ak 0 (by omega)
              simp only [Nat.mul_one, Nat.add_zero, inL, List.getElem?_cons_zero] at c0
              have i1 : 0 ≤ (k : Int) ∧ (k : Int) < (len : Int) := by omega
              have i2 : 0 ≤ (k : Int) ∧ (k : Int) < (len1 : Int) := by omega
              clear ak
              generalize A k = t at *
              by_cases ht1 : 1 ≤ t
              · have t1 : decide (t < 1) = false := decide_eq_false (by omega)
                by_cases ht6 : t ≤ 6
                · have t6 : decide (6 < t) = false := decide_eq_false (by omega)
                  have ht64 : I64 t := i64s (by omega) (by omega)
                  obtain ⟨g1, o1, rfl, am, _⟩ := HM.out k hlt1
                  have HMk : Hid (∀ w', Fr none' W w' → w'.cell? ⟨g1, o1 + k * 7, none⟩ = some (.int .i64 (M k).l) ∧ w'.cell? ⟨g1, o1 + k * 7 + 1, none⟩ = some (.int .i64 (M k).b) ∧ w'.cell? ⟨g1, o1 + k * 7 + 2, none⟩ = some (.int .i64 (M k).n) ∧ w'.cell? ⟨g1, o1 + k * 7 + 3, none⟩ = some (.int .u32 (M k).w0) ∧ w'.cell? ⟨g1, o1 + k * 7 + 4, none⟩ = some (.int .u32 (M k).w1) ∧ w'.cell? ⟨g1, o1 + k * 7 + 5, none⟩ = some (.int .u32 (M k).w2) ∧ w'.cell? ⟨g1, o1 + k * 7 + 6, none⟩ = some (.int .u32 (M k).w3)) := fun w' f =>
                    ⟨cell_keep f (am 0 (by omega)) (fun h => h), cell_keep f (am 1 (by omega)) (fun h => h), cell_keep f (am 2 (by omega)) (fun h => h), cell_keep f (am 3 (by omega)) (fun h => h), cell_keep f (am 4 (by omega)) (fun h => h), cell_keep f (am 5 (by omega)) (fun h => h), cell_keep f (am 6 (by omega)) (fun h => h)⟩
                  clear am
                  generalize M k = m at *
                  obtain ⟨y0, y1, y2, y3, y4, y5, y6⟩ := HMk.out wr (HF.out.trans hC.ix.old)
                  have HCm : Hid (Cam w1 wr b ep u9 u10 C) := hC
                  cases hm : mayM m with
                  | false =>
                    obtain ⟨e1, e2, e3⟩ := ord_bad (ep := ep) (t := t) (C := C) (D := []) hm true
                    have HS : Hid (Calls Try.prog 18 #[pv b, .int .i64 ep, .int .i64 t, msV m, .bool false, .bool true] wr fun e w' => e = .returned (.tuple #[.int .i64 (-1), .int .i64 1]) ∧ Ix w1 w' b (ordS ep [] C false) (Ow u9 u10) ∧ FrO w1 (Ow u9 u10) wr w') := by
                      have := xsend hC.ix ep t m false true he64 ht64
                      rw [e1, e2, e3] at this
                      exact this
                    clear e1 e2 e3 hC HI
                    go_wp2_with (first | (go_at_call 18; refine (Calls.mono HS.out ?_); rintro e w3 ⟨rfl, Q, f3⟩; obtain ⟨x0, x1, x2, x3, x4, x5, x6⟩ := HMk.out w3 (HF.out.trans Q.old)) | (go_at_call 19; refine (right_any m _).mono ?_; rintro e w4 ⟨rfl, f4⟩; obtain ⟨z0, z1, z2, z3, z4, z5, z6⟩ := HMk.out w4 (HF.out.trans (Q.keep0 f4).old)))
                    go_roundw
                    case rel => exact ⟨k + 1, by omega, by omega, by omega, by go_num, C, (HCm.out.fro Q f3).keep0 f4⟩
                    case measure => simp [intOf]; omega
                  | true =>
                    cases hw : waiB (ordS ep [] C false) t with
                    | true =>
                      obtain ⟨e1, e2, e3⟩ := ord_wait hne (num_16 ht1 ht6) hm hw true
                      have HS : Hid (Calls Try.prog 18 #[pv b, .int .i64 ep, .int .i64 t, msV m, .bool false, .bool true] wr fun e w' => e = .returned (.tuple #[.int .i64 (-1), .int .i64 150]) ∧ Ix w1 w' b (ordS ep [] C false) (Ow u9 u10) ∧ FrO w1 (Ow u9 u10) wr w') := by
                        have := xsend hC.ix ep t m false true he64 ht64
                        rw [e1, e2, e3] at this
                        exact this
                      clear e1 e2 e3 hC HI hw
                      go_wp2_with (first | (go_at_call 18; refine (Calls.mono HS.out ?_); rintro e w3 ⟨rfl, Q, f3⟩; obtain ⟨x0, x1, x2, x3, x4, x5, x6⟩ := HMk.out w3 (HF.out.trans Q.old)) | (go_at_call 19; refine (right_any m _).mono ?_; rintro e w4 ⟨rfl, f4⟩; obtain ⟨z0, z1, z2, z3, z4, z5, z6⟩ := HMk.out w4 (HF.out.trans (Q.keep0 f4).old)))
                      go_roundw
                      case rel => exact ⟨k + 1, by omega, by omega, by omega, by go_num, C, (HCm.out.fro Q f3).keep0 f4⟩
                      case measure => simp [intOf]; omega
                    | false =>
                      obtain ⟨e1, e2, e3, okN⟩ := ord_new hC.ok hne ht1 ht6 hm hw
                      have HS : Hid (Calls Try.prog 18 #[pv b, .int .i64 ep, .int .i64 t, msV m, .bool false, .bool true] wr fun e w' => e = .returned (.tuple #[.int .i64 (-1), .int .i64 0]) ∧ Ix w1 w' b (ordS ep [] (C ++ [(t, m)]) false) (Ow u9 u10) ∧ FrO w1 (Ow u9 u10) wr w') := by
                        have := xsend hC.ix ep t m false true he64 ht64
                        rw [e1, e2, e3] at this
                        exact this
                      clear e1 e2 e3 hC HI hw
                      go_wp2_with (first | (go_at_call 18; refine (Calls.mono HS.out ?_); rintro e w3 ⟨rfl, Q, f3⟩; obtain ⟨x0, x1, x2, x3, x4, x5, x6⟩ := HMk.out w3 (HF.out.trans Q.old)) | (go_at_call 19; refine (right_any m _).mono ?_; rintro e w4 ⟨rfl, f4⟩; obtain ⟨va', wA, hrunA, oA, vb', wB, hrunB, hC'⟩ := cam_push HCm.out (Q.keep0 f4) (f3.trans (f4.mono (fun _ _ h => h.elim))) okN; dsimp only [msA] at hrunB; obtain ⟨z0, z1, z2, z3, z4, z5, z6⟩ := HMk.out wA (HF.out.trans oA)) | (at_builtin; refine wpList_append_runK rfl _ _ 37 rfl _ _ rfl rfl _ _ hrunA ?_) | (at_builtin; refine wpList_append_runK rfl _ _ 53 rfl _ _ rfl rfl _ _ hrunB ?_))
                      go_roundw
                      case rel => exact ⟨k + 1, by omega, by omega, by omega, by go_num, _, hC'.out⟩
                      case measure => simp [intOf]; omega
                · have t6 : decide (6 < t) = true := decide_eq_true (by omega)
                  go_wp2_with fail
                  go_roundw
                  case rel => exact ⟨k + 1, by omega, by omega, by omega, by go_num, HI⟩
                  case measure => simp [intOf]; omega
              · have t1 : decide (t < 1) = true := decide_eq_true (by omega)
                go_wp2_with fail
                go_roundw
                case rel => exact ⟨k + 1, by omega, by omega, by omega, by go_num, HI⟩
                case measure => simp [intOf]; omega
            · have uk3 : decide ((k : Int) < 20) = false := decide_eq_false (by omega)
              go_wp2_with fail
              go_meet
              exact HI
          · have uk2 : decide ((k : Int) < (len1 : Int)) = false := decide_eq_false (by omega)
            go_wp2_with fail
            go_meet
            exact HI
        · have uk1 : decide ((k : Int) < (len : Int)) = false := decide_eq_false (by omega)
          go_wp2_with fail
          go_meet
          exact HI
    case rest =>
      obtain ⟨C, hC⟩ := hcut
      obtain ⟨aa, ab, ca, cb, rfl, rfl, hL⟩ := cam_lst hC
      have hok := hC.ok
      have hlen := hok.len
      have HP2 : Hid (∃ D C' z, C = D ++ C' ∧ D.length = 0 ∧ Ix w1 wc b (ordS ep D C' z) (Ow (.slice aa C.length ca) (.slice ab C.length cb)) ∧ (C ≠ [] → ∃ ga gb, aa = some ⟨ga, 0, none⟩ ∧ ab = some ⟨gb, 0, none⟩ ∧ Lst wc ga gb C)) := ⟨[], C, false, rfl, rfl, hC.ix, hL⟩
      clear hL hC HP
      have HN : Hid (∃ n, C.length = n) := ⟨_, rfl⟩
      obtain ⟨n, hn⟩ := HN
      rw [hn] at HP2 hlen ⊢
      have HNl : Hid (C.length = n) := hn
      clear hn
      have n7 : (n : Int) ≤ 7 := by omega
      go_upto_block 2 with fail
      go_cut [16] from 103 to 147 (fun i wd => Hid (∃ D z, (∀ d ∈ D, d.1 ≠ 0) ∧ Ix w1 wd b (ordS ep D [] z) (Ow (.slice aa n ca) (.slice ab n cb))))
      case first =>
        go_wp2_with fail
        go_loopw [16] (fun i wr => ∃ j : Nat, j ≤ n ∧ i = .int .i64 (j : Int) ∧ Hid (∃ D C' z, C = D ++ C' ∧ D.length = j ∧ Ix w1 wr b (ordS ep D C' z) (Ow (.slice aa n ca) (.slice ab n cb)) ∧ (C ≠ [] → ∃ ga gb, aa = some ⟨ga, 0, none⟩ ∧ ab = some ⟨gb, 0, none⟩ ∧ Lst wr ga gb C))) (fun i _ => n - (intOf i).toNat)
        case atStart => exact ⟨0, by omega, rfl, HP2⟩
        case round =>
          obtain ⟨j, hj, rfl, HJ⟩ := hrel
          clear HP2
          by_cases hlt : j < n
          · obtain ⟨D, C', z, hDC, hDj, P, hL⟩ := HJ.out
            have uj : decide ((j : Int) < (n : Int)) = true := decide_eq_true (by omega)
            have i1 : 0 ≤ (j : Int) ∧ (j : Int) < (n : Int) := by omega
            cases C' with
            | nil =>
              have := HNl.out
              rw [hDC] at this
              simp at this
              omega
            | cons c C'' =>
              have hcj : C[j]? = some c := by rw [hDC, ← hDj]; simp
              have hne : C ≠ [] := by rw [hDC]; simp
              obtain ⟨ga, gb, rfl, rfl, hl⟩ := hL hne
              obtain ⟨e1, e2, e3, e4, e5, e6⟩ := ord_rec (z := z) (by rw [← hDC]; exact hok) (by assumption : numB ep = true)
              have XR := xrecv P ep 0 true he64 z64
              rw [e1, e2, e3] at XR
              have HE : Hid (C = (D ++ [c]) ++ C'' ∧ (D ++ [c]).length = j + 1) := ⟨by rw [hDC]; simp, by simp [hDj]⟩
              have HS : Hid (Lst wr ga gb C ∧ C[j]? = some c) := ⟨hl, hcj⟩
              have hN : ∀ w, (binOp .neq 36 (.agg #[.int .i64 c.2.l, .int .i64 c.2.b, .int .i64 c.2.n, .int .u32 c.2.w0, .int .u32 c.2.w1, .int .u32 c.2.w2, .int .u32 c.2.w3]) (.agg #[.int .i64 c.2.l, .int .i64 c.2.b, .int .i64 c.2.n, .int .u32 c.2.w0, .int .u32 c.2.w1, .int .u32 c.2.w2, .int .u32 c.2.w3])).run Try.prog w = .ok (.bool false) w := fun w => by
                have := neq_ms c.2 c.2 w
                rw [eqM_iff.2 rfl] at this
                exact this
              have hy : (c.1 != c.1) = false := by simp
              clear e1 e2 e3 hDC hDj hl hcj hne hL P HJ
              go_wp2_with fail
              refine XR.mono ?_
              clear XR
              rintro e w3 ⟨rfl, Q, f3⟩
              have XI := xinbox Q 0 z64
              rw [e4, e5, e6] at XI
              clear e4 e5 e6 Q
              go_wp2_with fail
              refine XI.mono ?_
              clear XI
              rintro e w4 ⟨rfl, Q4, f4⟩
              have hl4 : Lst w4 ga gb C := (HS.out.1.keep f3 (fun h => h.2 (Or.inl rfl)) (fun h => h.2 (Or.inr rfl))).keep f4 (fun h => h.2 (Or.inl rfl)) (fun h => h.2 (Or.inr rfl))
              have fb := (Fr.refl none' w4).alloc (.cells (msA c.2) 36)
              have hl5 := hl4.keep fb (fun h => h) (fun h => h)
              obtain ⟨q0, qs⟩ := hl5 j c HS.out.2
              have q1 := qs 0 (by omega)
              have q2 := qs 1 (by omega)
              have q3 := qs 2 (by omega)
              have q4 := qs 3 (by omega)
              have q5 := qs 4 (by omega)
              have q6 := qs 5 (by omega)
              have q7 := qs 6 (by omega)
              simp only [msL, List.getElem?_cons_zero, List.getElem?_cons_succ, Nat.add_zero] at q1 q2 q3 q4 q5 q6 q7
              have HZ : Hid (∀ nq, Ix w1 ((w4.alloc (.cells (msA c.2) 36)).drewN nq) b (ordS ep (D ++ [c]) C'' true) (Ow (.slice (some ⟨ga, 0, none⟩) n ca) (.slice (some ⟨gb, 0, none⟩) n cb)) ∧ Lst ((w4.alloc (.cells (msA c.2) 36)).drewN nq) ga gb C) := fun nq => ⟨(Q4.keep0 fb).keep0 (fr_drewN _ nq), hl5.keep (fr_drewN _ nq) (fun h => h) (fun h => h)⟩
              dsimp only [msA] at q0 q1 q2 q3 q4 q5 q6 q7 HZ
              clear qs hl4 hl5 f3 f4 fb Q4
              go_wp2_with fail
              go_quiet (fail)
              go_wp2_with fail
              go_roundw
              case rel => exact ⟨j + 1, by omega, by go_num, _, _, true, HE.out.1, HE.out.2, (HZ.out _).1, fun _ => ⟨ga, gb, rfl, rfl, (HZ.out _).2⟩⟩
              case measure => simp [intOf]; omega
          · have uj : decide ((j : Int) < (n : Int)) = false := decide_eq_false (by omega)
            have HQ : Hid (∃ D z, (∀ d ∈ D, d.1 ≠ 0) ∧ Ix w1 wr b (ordS ep D [] z) (Ow (.slice aa n ca) (.slice ab n cb))) := by
              obtain ⟨D, C', z, hDC, hDj, P, _⟩ := HJ.out
              have hC' : C' = [] := by
                have := HNl.out
                rw [hDC] at this
                simp at this
                exact List.eq_nil_of_length_eq_zero (by omega)
              subst hC'
              exact ⟨D, z, fun d hd => by have := hok.id d (by rw [hDC]; simpa using hd); omega, P⟩
            clear HJ
            go_wp2_with fail
            go_meet
            exact HQ
      case rest =>
        obtain ⟨D, z, hD, P⟩ := hcut
        obtain ⟨e1, e2⟩ := ord_end (ep := ep) (z := z) hD (by assumption : numB ep = true)
        have XR := xrecv P ep 0 false he64 z64
        rw [e1, e2] at XR
        generalize recN (ordS ep D [] z) ep 0 = rn at XR
        clear e1 e2 HP2 hD P HA HM
        go_wp2_with fail
        refine XR.mono ?_
        clear XR
        rintro e w5 ⟨rfl, Q, _⟩
        have HZ : Hid (Fr none' W w5) := HF.out.trans Q.old
        clear Q
        go_wp2_with fail
        go_ret
        exact ⟨rfl, bel_of' HZ.out⟩

end Go.Proofs.Ytcdckkhfkkjbmaa
