/-
  The contract of the document's AddNode over the translation, where a node comes. No statement is proved here.
-/
import Derived.Test.YtibdkadojoeopaaCsRefA
namespace Go.Proofs.Ytibdkadojoeopaa
open Go.RowKit Go.Maps Go.WideMaps

theorem AddI.congr {w wr : World} {q : Qb} {L A : List Nd} {v : Value} {C C' : Nat → Nat} (h : AddI w wr q L v C A) (e : ∀ n ∈ A, C n.id = C' n.id) : AddI w wr q L v C' A := ⟨by rw [← flatN_congr e]; exact h.own, h.is, h.fr⟩

theorem ownk_form {e : TypeId} {k : Nat} {w : World} {B : Nat} {v : Value} {n : Nat} {L : List Value} (h : OwnK e k w B v n L) : ∃ (a : Option Addr) (l c : Nat), v = .slice a l c := by
  obtain ⟨⟨_, h | ⟨g, cap, cur, hv, _⟩⟩, _⟩ := h
  · exact ⟨_, _, _, h.1⟩
  · exact ⟨_, _, _, hv⟩

/-- The row so far: without the new node, or with it. -/
def AddS (w wr : World) (q : Qb) (L : List Nd) (n : Nd) (v : Value) (A : List Nd) (dn : Bool) : Prop :=
  if dn then (∃ a ∈ A, n.id < a.id) ∧ ∃ G, w.heap.size ≤ G ∧ SlB wr G (2 ^ n.rx) n.sl ∧ AddI w wr q L v (updB q.C n.id G) (ins n A)
  else (∀ a ∈ A, ¬ n.id < a.id) ∧ AddI w wr q L v q.C A

theorem take_get {L : List Nd} {j : Nat} {x : Nd} (h : L[j]? = some x) : L.take (j + 1) = L.take j ++ [x] := by
  rw [List.take_add_one, h]; rfl

set_option maxRecDepth 100000 in
set_option maxHeartbeats 4000000 in
theorem radd_ok (w : World) (q : Qb) (L : List Nd) (h : IsQ w q L) (id : Int) (m : Nat) (ho : okA id m = true) (hf : fnd L id = none) : Calls Try.prog 27 #[.pointer (some ⟨q.b, 0, none⟩), .int .i64 id, .int .i64 (m : Int)] w fun e w' => e = .returned (.int .i64 0) ∧ ChgQ w q L w' (ins (newN id m) L) := by
  obtain ⟨⟨h1, h2⟩, h3, h4⟩ := okA_iff.mp ho
  have t1 : decide (id < 0) = false := decide_eq_false (by omega)
  have t2 : decide (1023 < id) = false := decide_eq_false (by omega)
  have t3 : decide ((m : Int) < 1) = false := decide_eq_false (by omega)
  have t4 : decide (4 < (m : Int)) = false := decide_eq_false (by omega)
  have hA := rat_any w q L h id
  obtain ⟨zs, hz, hmk⟩ := make_slots (2 ^ m) (pow4 (x := m) (by omega) (by omega)).2
  have eN : ((2 ^ m : Nat) : Int) = (2 : Int) ^ m := by push_cast; rfl
  have hw : IntKind.i64.wrap (2 ^ m) = ((2 ^ m : Nat) : Int) := by
    have := (pow4 (x := m) (by omega) (by omega)).2
    rw [← eN, IntKind.wrap_i64]
    generalize (2 ^ m : Nat) = N at *
    omega
  have hw2 : wrap64 (2 ^ m) = ((2 ^ m : Nat) : Int) := by
    have := (pow4 (x := m) (by omega) (by omega)).2
    rw [← eN]
    unfold wrap64
    generalize (2 ^ m : Nat) = N at *
    omega
  have hmk1 : ∀ w : World, (Instr.makeSlice 67 (.int .i64 (IntKind.i64.wrap (2 ^ m))) (.int .i64 (IntKind.i64.wrap (2 ^ m)))).run Try.prog w = .ok (.slice (some ⟨w.heap.size, 0, none⟩) (2 ^ m) (2 ^ m)) (w.alloc (.cells zs 34)) := fun w => by rw [hw]; exact hmk w
  have hmk2 : ∀ w : World, (Instr.makeSlice 67 (.int .i64 (wrap64 (2 ^ m))) (.int .i64 (wrap64 (2 ^ m)))).run Try.prog w = .ok (.slice (some ⟨w.heap.size, 0, none⟩) (2 ^ m) (2 ^ m)) (w.alloc (.cells zs 34)) := fun w => by rw [hw2]; exact hmk w
  have hmk3 : ∀ w : World, (Instr.makeSlice 67 (.int .i64 (2 ^ m)) (.int .i64 (2 ^ m))).run Try.prog w = .ok (.slice (some ⟨w.heap.size, 0, none⟩) (2 ^ m) (2 ^ m)) (w.alloc (.cells zs 34)) := fun w => by rw [← eN]; exact hmk w
  have HZ : Hid (∀ w : World, SlB (w.alloc (.cells zs 34)) w.heap.size (2 ^ m) (fun _ => K0)) := hz
  obtain ⟨N, hN⟩ : ∃ N, N = 2 ^ m := ⟨_, rfl⟩
  rw [← hN] at hmk1 hmk2 hmk3 HZ
  have HN : Hid (N = 2 ^ m) := hN
  have c0 := h.cell
  obtain ⟨a, cap, hv, hcap, hn⟩ := h.form
  rw [hv] at c0
  have hlen := len_le h.good
  have HB : Hid (∀ k, q.s L k → k < w.heap.size) := fun k hk => h.lt k hk
  have HH : Hid (IsQ w q L) := h
  have HG : Hid (GoodN (newN id m) ∧ ((newN id m).id : Int) = id ∧ (newN id m).rx = m) := ⟨goodN_new ho, newN_id ho, by show (m : Int).toNat = m; simp⟩
  have HF : Hid (fnd L id = none) := hf
  have HC : Hid (∀ i n, L[i]? = some n → ∃ g, a = some ⟨g, 0, none⟩ ∧ w.cell? ⟨g, i * 3, none⟩ = some (.int .i64 (n.id : Int)) ∧ w.cell? ⟨g, i * 3 + 1, none⟩ = some (.int .i64 (n.rx : Int)) ∧ w.cell? ⟨g, i * 3 + 2, none⟩ = some (.slice (some ⟨q.C n.id, 0, none⟩) (2 ^ n.rx) (2 ^ n.rx))) := hn
  obtain ⟨M, hM⟩ : ∃ M, M = L.length := ⟨_, rfl⟩
  rw [← hM] at c0 hlen
  have HM : Hid (M = L.length) := hM
  obtain ⟨nn, hnn⟩ : ∃ nn, nn = newN id m := ⟨_, rfl⟩
  rw [← hnn] at HG ⊢
  have HSl : Hid (nn.sl = fun _ => K0) := by rw [hnn]; rfl
  have HA : Hid (∀ a, q.v = .slice a L.length cap → True) := fun _ _ => trivial
  clear HA hn hv hcap h hz hmk hw hw2 eN hN hM hnn hf ho h1 h2
  go_enter Try.func27, Try.ntmps27
  go_wp2_with fail
  refine hA.mono ?_
  rintro e w1 ⟨rfl, ⟨hf', rfl⟩ | ⟨i, n, hf', hi, rfl⟩⟩
  · clear hA hf'
    go_wp2_with fail
    go_loopw [8, 9, 10] (fun v dn i wr => ∃ (j : Nat) (b : Bool), j ≤ M ∧ i = .int .i64 (j : Int) ∧ dn = .bool b ∧ Hid (AddS w1 wr q L nn v (L.take j) b)) (fun _ _ i _ => M - (intOf i).toNat)
    case atStart => 
      refine ⟨0, false, by omega, rfl, rfl, ?_⟩
      show AddS _ _ _ _ _ _ _ _
      refine ⟨by simp, ownk_nil _ _ _ _, HH.out, Fr.refl _ _⟩
    case round =>
      obtain ⟨j, b, hj, rfl, rfl, hS⟩ := hrel
      have hfr : Fr none' w1 wr := by
        have := hS.out
        unfold AddS at this
        cases b
        · exact this.2.fr
        · obtain ⟨_, G, _, _, hI⟩ := this
          exact hI.fr
      have c1 := cell_keep hfr c0 (fun h => h)
      by_cases hjM : j < M
      · have hjL : j < L.length := by rw [← HM.out]; exact hjM
        obtain ⟨g, rfl, d0, d1, d2⟩ := HC.out j L[j] (List.getElem?_eq_getElem hjL)
        have hgl : g < w1.heap.size := cell_lt d0
        have HGl : Hid (g < w1.heap.size) := hgl
        clear hgl
        have HX : Hid (L[j]? = some L[j]) := List.getElem?_eq_getElem hjL
        have HXm : Hid (L[j] ∈ L) := List.getElem_mem hjL
        generalize L[j] = x at *
        replace d0 := cell_keep hfr d0 (fun h => h)
        replace d1 := cell_keep hfr d1 (fun h => h)
        replace d2 := cell_keep hfr d2 (fun h => h)
        have HT : Hid (L.take (j + 1) = L.take j ++ [x]) := take_get HX.out
        have HTl : Hid ((L.take j).length ≤ 1024) := by
          show _ ≤ _
          rw [List.length_take]
          omega
        have HNe : Hid (x.id ≠ nn.id) := fun e => fnd_none HF.out x HXm.out (by rw [e]; exact HG.out.2.1)
        obtain ⟨S, hSx⟩ : ∃ S, S = 2 ^ x.rx := ⟨_, rfl⟩
        rw [← hSx] at d2
        have HS2 : Hid (S = 2 ^ x.rx) := hSx
        clear hSx hjL
        cases b with
        | false =>
          obtain ⟨hle, hI⟩ := (show (∀ a ∈ L.take j, ¬ nn.id < a.id) ∧ AddI w1 wr q L u8 q.C (L.take j) from hS.out)
          have HLe : Hid (∀ a ∈ L.take j, ¬ nn.id < a.id) := hle
          clear hS hle
          by_cases hgt : id < (x.id : Int)
          · have u1 : decide (id < (x.id : Int)) = true := decide_eq_true hgt
            have HGt : Hid (nn.id < x.id) := by have := HG.out.2.1; show _ < _; omega
            clear hgt
            have f1 := (Fr.refl none' wr).alloc (.cells zs 34)
            have s1 := HZ.out wr
            have f2 := f1.alloc (.cells #[.int .i64 id, .int .i64 (m : Int), .slice (some ⟨wr.heap.size, 0, none⟩) N N] 73)
            have r2 := row_alloc1 wr (.cells zs 34) #[.int .i64 id, .int .i64 (m : Int), .slice (some ⟨wr.heap.size, 0, none⟩) N N] 73
            have s2 := s1.keep ((Fr.refl none' _).alloc (.cells #[.int .i64 id, .int .i64 (m : Int), .slice (some ⟨wr.heap.size, 0, none⟩) N N] 73)) (fun h => h)
            have I2 := (hI.keep0 f2).congr (C' := updB q.C nn.id wr.heap.size) (fun a ha => by
              unfold updB
              rw [if_neg]
              intro e
              exact fnd_none HF.out a (List.mem_of_mem_take ha) (by rw [e]; exact HG.out.2.1))
            have hN0 : updB q.C nn.id wr.heap.size nn.id = wr.heap.size := by unfold updB; rw [if_pos rfl]
            obtain ⟨v3, w3, hrun1, I3, f3⟩ := I2.more HB.out (by have := HTl.out; omega) nn (wr.heap.size + 1) N (by rw [HN.out, HG.out.2.2]) (by rw [hN0, HG.out.2.1, HG.out.2.2]; exact r2)
            have s3 := s2.keep f3 (sl_not_own s2 I2.own.1)
            have x0 : ∀ cc vv, wr.cell? cc = some vv → cc.block < w1.heap.size → w3.cell? cc = some vv := fun cc vv hc hb => cell_keep f3 (cell_keep f2 hc (fun h => h)) (fun e => by have := I2.own.high _ e; omega)
            have hbq := HB.out q.b (Or.inl rfl)
            have e0 := x0 _ _ c1 hbq
            have g0 := x0 _ _ d0 HGl.out
            have g1 := x0 _ _ d1 HGl.out
            have g2 := x0 _ _ d2 HGl.out
            have f4 := (Fr.refl none' w3).alloc (.cells #[.int .i64 (x.id : Int), .int .i64 (x.rx : Int), .slice (some ⟨q.C x.id, 0, none⟩) S S] 73)
            have r4 := row_alloc w3 #[.int .i64 (x.id : Int), .int .i64 (x.rx : Int), .slice (some ⟨q.C x.id, 0, none⟩) S S] 73
            have hX0 : updB q.C nn.id wr.heap.size x.id = q.C x.id := by unfold updB; rw [if_neg HNe.out]
            obtain ⟨v5, w5, hrun2, I5, f5⟩ := (I3.keep0 f4).more HB.out (by have := HTl.out; rw [List.length_append]; simp; omega) x w3.heap.size S HS2.out (by rw [hX0]; exact r4)
            have s5 := (s3.keep f4 (fun h => h)).keep f5 (sl_not_own (s3.keep f4 (fun h => h)) (I3.keep0 f4).own.1)
            have HS5 : Hid (AddS w1 w5 q L nn v5 (L.take (j + 1)) true) := by
              show AddS _ _ _ _ _ _ _ _
              refine ⟨⟨x, by rw [HT.out]; simp, HGt.out⟩, wr.heap.size, hfr.size, ?_, ?_⟩
              · rw [HSl.out, HG.out.2.2, ← HN.out]; exact s5
              · rw [HT.out, ins_app_le HLe.out, ins_one_gt HGt.out]
                have e : L.take j ++ [nn, x] = (L.take j ++ [nn]) ++ [x] := by simp
                rw [e]; exact I5
            clear f1 s1 f2 r2 s2 I2 I3 f3 s3 x0 f4 r4 I5 f5 s5 hI hfr hN0 hX0 hbq
            go_wp2_with (first | (at_builtin; refine wpList_append_runK rfl _ _ 27 rfl _ _ rfl rfl _ _ hrun1 ?_) | (at_builtin; refine wpList_append_runK rfl _ _ 27 rfl _ _ rfl rfl _ _ hrun2 ?_))
            go_roundw
            case rel => exact ⟨j + 1, true, by omega, by go_num, rfl, HS5.out⟩
            case measure => simp [intOf]; omega
          · have u1 : decide (id < (x.id : Int)) = false := decide_eq_false hgt
            have HGt : Hid (¬ nn.id < x.id) := by have := HG.out.2.1; show ¬ _ < _; omega
            clear hgt
            have f4 := (Fr.refl none' wr).alloc (.cells #[.int .i64 (x.id : Int), .int .i64 (x.rx : Int), .slice (some ⟨q.C x.id, 0, none⟩) S S] 73)
            have r4 := row_alloc wr #[.int .i64 (x.id : Int), .int .i64 (x.rx : Int), .slice (some ⟨q.C x.id, 0, none⟩) S S] 73
            obtain ⟨v5, w5, hrun, I5, f5⟩ := (hI.keep0 f4).more HB.out (by have := HTl.out; omega) x wr.heap.size S HS2.out r4
            have HS5 : Hid (AddS w1 w5 q L nn v5 (L.take (j + 1)) false) := by
              show AddS _ _ _ _ _ _ _ _
              refine ⟨fun a ha => ?_, by rw [HT.out]; exact I5⟩
              rw [HT.out] at ha
              rcases List.mem_append.mp ha with ha | ha
              · exact HLe.out a ha
              · rw [List.mem_singleton.mp ha]; exact HGt.out
            clear f4 r4 I5 f5 hI hfr
            go_wp2_with (first | (at_builtin; refine wpList_append_runK rfl _ _ 27 rfl _ _ rfl rfl _ _ hrun ?_))
            go_roundw
            case rel => exact ⟨j + 1, false, by omega, by go_num, rfl, HS5.out⟩
            case measure => simp [intOf]; omega
        | true =>
          obtain ⟨hex, G, hGw, hsG, hI⟩ := (show (∃ a ∈ L.take j, nn.id < a.id) ∧ ∃ G, w1.heap.size ≤ G ∧ SlB wr G (2 ^ nn.rx) nn.sl ∧ AddI w1 wr q L u8 (updB q.C nn.id G) (ins nn (L.take j)) from hS.out)
          have HEx : Hid (∃ a ∈ L.take j, nn.id < a.id) := hex
          have hgt : id < (x.id : Int) := by
            obtain ⟨a, ha, hl⟩ := hex
            obtain ⟨i, hi, e⟩ := List.mem_iff_getElem.mp ha
            have hi' : i < j := by rw [List.length_take] at hi; omega
            have hp := HH.out.good.srt
            rw [List.pairwise_iff_getElem] at hp
            have hjl : j < L.length := by
              rcases Nat.lt_or_ge j L.length with h' | h'
              · exact h'
              · have := HX.out; rw [List.getElem?_eq_none h'] at this; cases this
            have := hp i j (by omega) hjl hi'
            rw [List.getElem_take] at e
            have e2 : L[j] = x := by have := HX.out; rw [List.getElem?_eq_getElem hjl] at this; exact Option.some.inj this
            rw [e, e2] at this
            have := HG.out.2.1
            omega
          have u1 : decide (id < (x.id : Int)) = true := decide_eq_true hgt
          clear hgt hex hS
          have f4 := (Fr.refl none' wr).alloc (.cells #[.int .i64 (x.id : Int), .int .i64 (x.rx : Int), .slice (some ⟨q.C x.id, 0, none⟩) S S] 73)
          have r4 := row_alloc wr #[.int .i64 (x.id : Int), .int .i64 (x.rx : Int), .slice (some ⟨q.C x.id, 0, none⟩) S S] 73
          have hX0 : updB q.C nn.id G x.id = q.C x.id := by unfold updB; rw [if_neg HNe.out]
          obtain ⟨v5, w5, hrun, I5, f5⟩ := (hI.keep0 f4).more HB.out (by rw [len_ins]; have := HTl.out; omega) x wr.heap.size S HS2.out (by rw [hX0]; exact r4)
          have s5 := (hsG.keep f4 (fun h => h)).keep f5 (sl_not_own (hsG.keep f4 (fun h => h)) (hI.keep0 f4).own.1)
          have HS5 : Hid (AddS w1 w5 q L nn v5 (L.take (j + 1)) true) := by
            show AddS _ _ _ _ _ _ _ _
            obtain ⟨a, ha, hl⟩ := HEx.out
            refine ⟨⟨a, by rw [HT.out]; exact List.mem_append_left _ ha, hl⟩, G, hGw, s5, ?_⟩
            rw [HT.out, ins_app_gt HEx.out]; exact I5
          clear f4 r4 I5 f5 hI hfr hX0 hsG s5 hGw
          go_wp2_with (first | (at_builtin; refine wpList_append_runK rfl _ _ 27 rfl _ _ rfl rfl _ _ hrun ?_))
          go_roundw
          case rel => exact ⟨j + 1, true, by omega, by go_num, rfl, HS5.out⟩
          case measure => simp [intOf]; omega
      · obtain rfl : j = M := by omega
        have HT : Hid (L.take j = L) := by show _ = _; rw [List.take_of_length_le (by rw [HM.out]; exact Nat.le_refl _)]
        have z0 : wr.frozen? ⟨q.b, 0, none⟩ = false := by
          have := hS.out
          unfold AddS at this
          cases b
          · exact this.2.is.row.frozen 0
          · obtain ⟨_, G, _, _, hI⟩ := this
            exact hI.is.row.frozen 0
        cases b with
        | true =>
          obtain ⟨_, G, hGw, hsG, hI⟩ := (show (∃ a ∈ L.take j, nn.id < a.id) ∧ ∃ G, w1.heap.size ≤ G ∧ SlB wr G (2 ^ nn.rx) nn.sl ∧ AddI w1 wr q L u8 (updB q.C nn.id G) (ins nn (L.take j)) from hS.out)
          rw [HT.out] at hI
          obtain ⟨va, vl, vc, rfl⟩ := ownk_form hI.own
          have HR : Hid (ChgQ w1 q L (wr.setCell ⟨q.b, 0, none⟩ (.slice va vl vc)) (ins nn L)) := HH.out.add HG.out.1 (by rw [HG.out.2.1]; exact HF.out) hI hGw hsG
          clear hI hsG hGw hS hfr
          go_wp2_with fail
          go_ret
          exact ⟨rfl, HR.out⟩
        | false =>
          obtain ⟨hle, hI⟩ := (show (∀ a ∈ L.take j, ¬ nn.id < a.id) ∧ AddI w1 wr q L u8 q.C (L.take j) from hS.out)
          rw [HT.out] at hI hle
          have f1 := (Fr.refl none' wr).alloc (.cells zs 34)
          have s1 := HZ.out wr
          have f2 := f1.alloc (.cells #[.int .i64 id, .int .i64 (m : Int), .slice (some ⟨wr.heap.size, 0, none⟩) N N] 73)
          have r2 := row_alloc1 wr (.cells zs 34) #[.int .i64 id, .int .i64 (m : Int), .slice (some ⟨wr.heap.size, 0, none⟩) N N] 73
          have s2 := s1.keep ((Fr.refl none' _).alloc (.cells #[.int .i64 id, .int .i64 (m : Int), .slice (some ⟨wr.heap.size, 0, none⟩) N N] 73)) (fun h => h)
          have I2 := (hI.keep0 f2).congr (C' := updB q.C nn.id wr.heap.size) (fun a ha => by
            unfold updB
            rw [if_neg]
            intro e
            exact fnd_none HF.out a ha (by rw [e]; exact HG.out.2.1))
          have hN0 : updB q.C nn.id wr.heap.size nn.id = wr.heap.size := by unfold updB; rw [if_pos rfl]
          obtain ⟨v3, w3, hrun, I3, f3⟩ := I2.more HB.out (by rw [← HM.out]; omega) nn (wr.heap.size + 1) N (by rw [HN.out, HG.out.2.2]) (by rw [hN0, HG.out.2.1, HG.out.2.2]; exact r2)
          have s3 := s2.keep f3 (sl_not_own s2 I2.own.1)
          obtain ⟨va, vl, vc, rfl⟩ := ownk_form I3.own
          have z3 : w3.frozen? ⟨q.b, 0, none⟩ = false := I3.is.row.frozen 0
          obtain ⟨vq, c3⟩ : ∃ vq, w3.cell? ⟨q.b, 0, none⟩ = some vq := ⟨_, I3.is.cell⟩
          have HR : Hid (ChgQ w1 q L (w3.setCell ⟨q.b, 0, none⟩ (.slice va vl vc)) (ins nn L)) := by
            refine HH.out.add HG.out.1 (by rw [HG.out.2.1]; exact HF.out) (G := wr.heap.size) ?_ hfr.size (by rw [HSl.out, HG.out.2.2, ← HN.out]; exact s3)
            rw [show ins nn L = L ++ [nn] from by
              have := ins_app_le (n := nn) (A := L) (B := []) hle
              simpa [ins] using this]
            exact I3
          clear f1 s1 f2 r2 s2 I2 I3 f3 s3 hI hfr hN0 hle hS
          go_wp2_with (first | (at_builtin; refine wpList_append_runK rfl _ _ 27 rfl _ _ rfl rfl _ _ hrun ?_))
          go_ret
          exact ⟨rfl, HR.out⟩
  · rw [HF.out] at hf'; cases hf'

end Go.Proofs.Ytibdkadojoeopaa
