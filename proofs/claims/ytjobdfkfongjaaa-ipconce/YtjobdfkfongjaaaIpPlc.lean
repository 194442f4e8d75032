/-
  A thread's place; whether it waits; the thread of a number; a thread's caller; over the translation. No statement is proved here.
-/
import Derived.Test.YtjobdfkfongjaaaIpFst
import Derived.Deep.RegionWith
import Derived.LaidEql
namespace Go.Proofs.Ytjobdfkfongjaaa
open Go.RowKit Go.Maps Go.WideMaps

set_option maxHeartbeats 1000000 in
theorem place_any (w : World) (p : Pb) (S : Ip) (h : IsI w p S) (t : Int) (ht : I64 t) : Calls Try.prog 50 #[pv p.b, .int .i64 t] w fun e w' => e = .returned (plV (plcS S t) (plcO S t)) ∧ Fr none' w w' := by
  have f0 := (Fr.refl none' w).alloc (.cells #[.int .i64 0, .int .i64 0] 82)
  have h0 := h.keep0 f0
  have c0 := h0.c0
  cases hf : fnd S.L t with
  | none =>
    have hL := h0.mt.look_none ht (map_none hf)
    have e1 : plcS S t = 0 ∧ plcO S t = -1 := by unfold plcS plcO thrT; rw [hf]; exact ⟨rfl, rfl⟩
    rw [e1.1, e1.2]
    have HR : Hid (∀ w1, Fr none' (w.alloc (.cells #[.int .i64 0, .int .i64 0] 82)) w1 → w1.cell? ⟨w.heap.size, 0, none⟩ = some (.int .i64 0) ∧ w1.cell? ⟨w.heap.size, 1, none⟩ = some (.int .i64 0) ∧ (∀ i, w1.frozen? ⟨w.heap.size, i, none⟩ = false) ∧ Row ((w1.setCell ⟨w.heap.size, 0, none⟩ (.int .i64 0)).setCell ⟨w.heap.size, 1, none⟩ (.int .i64 (-1))) w.heap.size #[.int .i64 0, .int .i64 (-1)] 82 ∧ Fr none' w ((w1.setCell ⟨w.heap.size, 0, none⟩ (.int .i64 0)).setCell ⟨w.heap.size, 1, none⟩ (.int .i64 (-1)))) := fun w1 f1 => by
      have r1 := (row_alloc w #[.int .i64 0, .int .i64 0] 82).keep f1 (fun h => h)
      exact ⟨r1.cell 0, r1.cell 1, fun i => r1.frozen i, (r1.setCell 0 (.int .i64 0)).setCell 1 (.int .i64 (-1)), ((f0.trans f1).setCell (p := ⟨w.heap.size, 0, none⟩) (Or.inl (Nat.le_refl _)) _).setCell (p := ⟨w.heap.size, 1, none⟩) (Or.inl (Nat.le_refl _)) _⟩
    clear h h0 hf f0 e1 ht
    go_enter Try.func50, Try.ntmps50
    go_wp2_with (go_at_call 84; refine (nowhere_any _).mono ?_; rintro e w1 ⟨rfl, f1⟩; obtain ⟨d0, d1, z, hr⟩ := HR.out w1 f1; have z0 := z 0; have z1 := z 1; clear z; have HQ : Hid _ := hr; clear hr)
    refine bodyPost_ret (ret_pl rfl rfl HQ.out.1 rfl) rfl ?_
    exact ⟨rfl, HQ.out.2⟩
  | some x =>
    have hL := h0.mt.look_some ht (map_some hf)
    have r1 := h0.look hf
    have d1 := r1.cst
    have d2 := r1.con
    have e1 : plcS S t = x.st ∧ plcO S t = x.on := by unfold plcS plcO thrT; rw [hf]; exact ⟨rfl, rfl⟩
    rw [e1.1, e1.2]
    have r0 := row_alloc w #[.int .i64 x.st, .int .i64 x.on] 82
    have f2 := (Fr.refl none' w).alloc (.cells #[.int .i64 x.st, .int .i64 x.on] 82)
    have hlt := (h.look hf).lt
    have hne : p.B t ≠ w.heap.size := by omega
    clear h h0 hf f0 e1 ht r1 hlt
    generalize p.B t = g at *
    go_enter Try.func50, Try.ntmps50
    go_wp2
    refine bodyPost_ret (ret_pl rfl rfl r0 rfl) rfl ?_
    exact ⟨rfl, f2⟩

theorem waits_any (w : World) (p : Pb) (S : Ip) (h : IsI w p S) (t : Int) (ht : I64 t) : Calls Try.prog 54 #[pv p.b, .int .i64 t] w fun e w' => e = .returned (.bool (waiB S t)) ∧ Fr none' w w' := by
  have HI : Hid (Calls Try.prog 50 #[pv p.b, .int .i64 t] w fun e w' => e = .returned (plV (plcS S t) (plcO S t)) ∧ Fr none' w w') := place_any w p S h t ht
  have hE := neq_pl (plcS S t) (plcO S t) 0 (-1)
  have HB : Hid ((!(plcS S t == 0 && plcO S t == -1)) = waiB S t) := rfl
  clear h
  generalize plcS S t = s at *
  generalize plcO S t = o at *
  generalize hx : (!(s == 0 && o == -1)) = x at *
  clear hx
  go_enter Try.func54, Try.ntmps54
  go_wp2_with (first | (go_at_call 50; refine HI.out.mono ?_; rintro e w1 ⟨rfl, f1⟩) | (go_at_call 84; refine (nowhere_any _).mono ?_; rintro e w2 ⟨rfl, f2⟩))
  go_ret
  exact ⟨by rw [HB.out]; rfl, f1.trans f2⟩

set_option maxHeartbeats 1000000 in
theorem caller_any (w : World) (p : Pb) (S : Ip) (h : IsI w p S) (ok : Ok S) (t : Int) : Calls Try.prog 49 #[pv p.b, .int .i64 t] w fun e w' => e = .returned (ptO p (calO S t)) ∧ Fr none' w w' := by
  unfold calO
  have N := fun W => isn_any t W
  cases hn : numB t with
  | false =>
    rw [hn] at N
    simp only [Bool.false_eq_true, if_false]
    clear h ok hn
    go_enter Try.func49, Try.ntmps49
    go_wp2_with (go_at_call 56; refine (N _).mono ?_; rintro e w1 ⟨rfl, rfl⟩)
    go_ret
    exact ⟨rfl, Fr.refl _ _⟩
  | true =>
    rw [hn] at N
    have hn' := num_iff.1 hn
    simp only [if_true]
    have HI : Hid (∀ w1, Fr none' w w1 → Calls Try.prog 58 #[pv p.b, plV 4 t] w1 fun e w' => e = .returned (ptO p (firO S 4 t)) ∧ Fr none' w1 w') := fun w1 f1 => first_any w1 p S (h.keep0 f1) ok 4 t ⟨by omega, by omega⟩ ⟨by omega, by omega⟩
    clear h ok hn hn'
    go_enter Try.func49, Try.ntmps49
    go_wp2_with (first | (go_at_call 56; refine (N _).mono ?_; rintro e w1 ⟨rfl, rfl⟩) | (go_at_call 63; refine (answer_any _ _).mono ?_; rintro e w2 ⟨rfl, f2⟩) | (go_at_call 58; refine (HI.out _ f2).mono ?_; rintro e w3 ⟨rfl, f3⟩))
    go_ret
    exact ⟨rfl, f2.trans f3⟩

set_option maxRecDepth 100000 in
set_option maxHeartbeats 2000000 in
theorem thread_any (w : World) (p : Pb) (S : Ip) (h : IsI w p S) (ok : Ok S) (t : Int) (ht : numB t = true) : Calls Try.prog 60 #[pv p.b, .int .i64 t] w fun e w' => ∃ p', e = .returned (pv (p'.B t)) ∧ Chg w p S w' p' (thrS S t) := by
  have ht' := num_iff.1 ht
  have h64 : I64 t := ⟨by omega, by omega⟩
  have c0 := h.c0
  unfold thrS
  cases hf : fnd S.L t with
  | some x =>
    have hL := h.mt.look_some h64 (map_some hf)
    have hL2 := h.mt.look0_some h64 (map_some hf)
    have HC : Hid (Chg w p S w p S) := Chg.same h (Fr.refl _ _)
    clear h ok hf ht ht' h64
    go_enter Try.func60, Try.ntmps60
    go_wp2
    go_ret
    exact ⟨p, rfl, HC.out⟩
  | none =>
    have hL := h.mt.look_none h64 (map_none hf)
    have HA : Hid (∀ w1, Fr none' w w1 → w1.cell? ⟨p.b, 0, none⟩ = some (.map (some p.m)) ∧ (w1.alloc (.cells (thA (newTh t)) 89)).cell? ⟨p.b, 0, none⟩ = some (.map (some p.m)) ∧ ∃ w2, (Instr.mapUpdate 68 (.map (some p.m)) (.int .i64 t) (pv w1.heap.size)).run Try.prog (w1.alloc (.cells (thA (newTh t)) 89)) = .ok () w2 ∧ ∃ p', p'.b = p.b ∧ p'.B t = w1.heap.size ∧ w2.cell? ⟨p.b, 0, none⟩ = some (.map (some p.m)) ∧ (Instr.lookup 68 (.map (some p.m)) (.int .i64 t) false).run Try.prog w2 = .ok (pv w1.heap.size) w2 ∧ Chg w p S w2 p' { S with L := S.L ++ [newTh t] }) := fun w1 f1 => by
      have f2 := f1.alloc (.cells (thA (newTh t)) 89)
      have h2 := h.keep0 f2
      have r2 : ThR (w1.alloc (.cells (thA (newTh t)) 89)) w1.heap.size (newTh t) := row_alloc w1 _ _
      obtain ⟨w2, hrun, hm2, f3⟩ := h2.mt.store (len_le h.gl) h64 (map_none hf) w1.heap.size (f' := fun j => if t = j then some w1.heap.size else mapF p S.L j) (fun _ => rfl)
      have HC := h.add ok ht hf f1.size f2 r2 f3 hm2
      refine ⟨(h.keep0 f1).c0, h2.c0, w2, hrun, { p with B := updB p.B t w1.heap.size }, rfl, ?_, HC.is.c0, HC.is.mt.look0_some h64 ?_, HC⟩
      · show updB p.B t w1.heap.size t = _
        unfold updB
        rw [if_pos rfl]
      · rw [map_some (n := newTh t) (by show fnd (S.L ++ [newTh t]) t = _; rw [fnd_new hf, if_pos rfl])]
        show some (updB p.B t w1.heap.size t) = _
        unfold updB
        rw [if_pos rfl]
    obtain ⟨r, hr⟩ : ∃ r, r = newTh t := ⟨_, rfl⟩
    have HN : Hid (thA (newTh t) = #[.int .i64 t, .int .i64 0, .int .i64 (-1), .int .i64 0, .int .i64 0, .int .i64 0, .int .u32 0, .int .u32 0, .int .u32 0, .int .u32 0, .bool false, .int .i64 0, .int .i64 0, .int .i64 0, .int .u32 0, .int .u32 0, .int .u32 0, .int .u32 0, .bool false, .int .i64 (-1)]) := rfl
    rw [HN.out] at HA
    clear h ok hf ht ht' h64 hr r HN
    generalize hpm : p.m = m at *
    generalize hpb : p.b = b at *
    go_enter Try.func60, Try.ntmps60
    go_wp2_with fail
    clear hL
    go_region_with (refine (nowhere_any _).mono ?_; rintro e w1 ⟨rfl, f1⟩; obtain ⟨d0, d1, w2, hrun, HB⟩ := HA.out w1 (by first | exact f1 | exact (Fr.refl none' w).drew.trans f1); have HC : Hid _ := HB; clear HB)
    all_goals obtain ⟨p', hb', hB', e0, hL2, hC⟩ := HC.out
    all_goals have HZ : Hid (p'.B t = w1.heap.size ∧ Chg w p S w2 p' { S with L := S.L ++ [newTh t] }) := ⟨hB', hC⟩
    all_goals clear hb' hB' hC c0 d0 d1 hrun HC HA
    all_goals go_wp2
    all_goals go_ret
    all_goals exact ⟨p', by rw [HZ.out.1]; rfl, HZ.out.2⟩

end Go.Proofs.Ytjobdfkfongjaaa
