/-
  Proved: the statement IpcSidesSaid: for every list of acts the law IpcSides of the Go text returns true, and each argument reads afterwards as it read before. No condition but the form's own.
-/
import Derived.Test.YtjobdfkfongjaaaIpBo
/- IpSidW -/
namespace Go.Proofs.Ytjobdfkfongjaaa
open Go.RowKit Go.Maps Go.WideMaps Go.Shelf

/-- Does it wait at one of the first n endpoints, as a sender or a receiver? -/
def snC (S : Ip) (n : Nat) (c : Int) : Int := if (plcS S c = 2 ∨ plcS S c = 3) ∧ plcO S c < (n : Int) then 1 else 0
theorem wai_mem {S : Ip} (ok : Ok S) {n c : Int} : c ∈ waiL S n ↔ (plcS S c = 2 ∨ plcS S c = 3) ∧ plcO S c = n := by
  unfold waiL
  rw [List.mem_append]
  constructor
  · rintro (h | h)
    · obtain ⟨a1, a2, _, _⟩ := ok.memT h
      exact ⟨Or.inl a1, a2⟩
    · obtain ⟨a1, a2, _, _⟩ := ok.memT h
      exact ⟨Or.inr a1, a2⟩
  · rintro ⟨h | h, ho⟩
    · left
      have := (ok.inT (x := c) (by show plcS S c ≠ 0; rw [h]; decide)).1
      have h' : (thrT S c).st = 2 := h
      have ho' : (thrT S c).on = n := ho
      rw [h', ho'] at this
      exact this
    · right
      have := (ok.inT (x := c) (by show plcS S c ≠ 0; rw [h]; decide)).1
      have h' : (thrT S c).st = 3 := h
      have ho' : (thrT S c).on = n := ho
      rw [h', ho'] at this
      exact this
theorem snC_0 {S : Ip} (ok : Ok S) (c : Int) : snC S 0 c = 0 := by
  unfold snC
  rw [if_neg]
  rintro ⟨h, ho⟩
  have := ok.plT c
  have h1 : (thrT S c).st = plcS S c := rfl
  have h2 : (thrT S c).on = plcO S c := rfl
  unfold okP at this
  omega
theorem snC_up {S : Ip} (ok : Ok S) (n : Nat) (c : Int) : snC S (n + 1) c = snC S n c + (if c ∈ waiL S n then 1 else 0) := by
  unfold snC
  by_cases h : c ∈ waiL S n
  · obtain ⟨h1, h2⟩ := (wai_mem ok).1 h
    rw [if_pos h, if_pos ⟨h1, by omega⟩, if_neg (fun e => by omega)]
    rfl
  · rw [if_neg h]
    have hn : ¬ ((plcS S c = 2 ∨ plcS S c = 3) ∧ plcO S c = (n : Int)) := fun e => h ((wai_mem ok).2 e)
    by_cases h1 : (plcS S c = 2 ∨ plcS S c = 3) ∧ plcO S c < (n : Int)
    · rw [if_pos h1, if_pos ⟨h1.1, by omega⟩]
      rfl
    · rw [if_neg h1, if_neg (fun e => by
        have : ¬ plcO S c = (n : Int) := fun e2 => hn ⟨e.1, e2⟩
        exact h1 ⟨e.1, by omega⟩)]
      rfl
theorem sides_q {S : Ip} (ok : Ok S) (iv : Iv S) (n : Int) : ∃ s, (s = 2 ∨ s = 3) ∧ (waiL S n).Nodup ∧ ∀ x ∈ waiL S n, plcS S x = s ∧ plcO S x = n ∧ 0 ≤ x ∧ x < 1024 := by
  have key : ∀ s, (s = 2 ∨ s = 3) → waiL S n = S.q s n → ∃ s, (s = 2 ∨ s = 3) ∧ (waiL S n).Nodup ∧ ∀ x ∈ waiL S n, plcS S x = s ∧ plcO S x = n ∧ 0 ≤ x ∧ x < 1024 := fun s hs e => ⟨s, hs, by rw [e]; exact ok.nd s n, fun x hx => by
    rw [e] at hx
    obtain ⟨a1, a2, _, hu⟩ := ok.memT hx
    have := fnd_pos ok.gl hu
    exact ⟨a1, a2, this.1, by omega⟩⟩
  rcases iv.side n with e | e
  · exact key 3 (Or.inr rfl) (by unfold waiL; rw [e]; rfl)
  · exact key 2 (Or.inl rfl) (by unfold waiL; rw [e]; simp)
/-- Behind j of those who wait at an endpoint. -/
def snJ (S : Ip) (n : Nat) (l : List Int) (j : Nat) (c : Int) : Int := snC S n c + (if c ∈ l.take j then 1 else 0)
theorem snJ_0 (S : Ip) (n : Nat) (l : List Int) (c : Int) : snJ S n l 0 c = snC S n c := by unfold snJ; simp
theorem snJ_up {S : Ip} (ok : Ok S) {n : Nat} {l : List Int} (hl : l = waiL S n) (hn : l.Nodup) {j : Nat} {x : Int} (hj : l[j]? = some x) : snJ S n l j x = 0 ∧ snJ S n l (j + 1) x = 1 ∧ ∀ c, c ≠ x → snJ S n l (j + 1) c = snJ S n l j c := by
  have hlt : j < l.length := by
    rcases Nat.lt_or_ge j l.length with h' | h'
    · exact h'
    · rw [List.getElem?_eq_none h'] at hj; cases hj
  have hx : l[j] = x := by rw [List.getElem?_eq_getElem hlt] at hj; exact Option.some.inj hj
  have hin : x ∈ waiL S n := by rw [← hl, ← hx]; exact List.getElem_mem hlt
  obtain ⟨h1, h2⟩ := (wai_mem ok).1 hin
  have h0 : snC S n x = 0 := by unfold snC; rw [if_neg (fun e => by omega)]
  have hni : x ∉ l.take j := by rw [← hx]; exact take_notin hn hlt
  have htk : l.take (j + 1) = l.take j ++ [x] := by rw [List.take_add_one, hj]; rfl
  refine ⟨?_, ?_, fun c hc => ?_⟩
  · unfold snJ; rw [h0, if_neg hni]; rfl
  · unfold snJ; rw [h0, htk, if_pos (by simp)]; rfl
  · unfold snJ
    rw [htk]
    have : (c ∈ l.take j ++ [x]) ↔ c ∈ l.take j := by simp [hc]
    by_cases h : c ∈ l.take j
    · rw [if_pos h, if_pos (this.2 h)]
    · rw [if_neg h, if_neg (fun e => h (this.1 e))]
theorem OI.lw {B : Nat} {w0 w : World} {b g k : Nat} {S : Ip} {f : Int → Int} {v x : Value} {l : List Int} (h : OI B w v l) (r : Lw w0 w b S g f) : OI B (w.setCell ⟨g, k, none⟩ x) v l :=
  ownsRow_at h fun j hj hl => (fr_set w g k x (Fr.refl (at' g) w)).block j hl (fun e => by
    have e : j = g := e
    subst e
    obtain ⟨_, cur, r'⟩ := own_rowB h hj
    exact absurd (row_ty r' r.ar).1 (by decide))

set_option maxRecDepth 100000 in
set_option maxHeartbeats 8000000 in
theorem lsides_any (a0 : Option Addr) (len cap : Nat) (W : World) (hl : len ≤ 9223372036854775807) (hA : ∃ A, Acs W a0 len A) :
    Calls Try.prog 5 #[.slice a0 len cap] W fun e W' => e = .returned (.bool true) ∧ Below W.heap.size W W' := by
  obtain ⟨A, hA⟩ := hA
  have HA : Hid (Acs W a0 len A) := hA
  clear hA
  go_enter Try.func5, Try.ntmps5
  go_wp2_with fail
  refine (awake_any W).mono ?_
  rintro e w1 ⟨rfl, F0⟩
  have HP : Hid _ := played_any w1 a0 len cap A (HA.out.keep' F0) hl
  have HF : Hid (Fr none' W w1) := F0
  clear F0
  go_wp2_with fail
  refine Calls.mono HP.out ?_
  clear HP
  rintro e w2 ⟨b, r, K, rfl, _, ix, iv⟩
  generalize plS A K = S at *
  have HL : Hid (Lw w1 (w2.alloc (.cells (ar8 fun _ => 0) 49)) b S w2.heap.size (snC S 0)) := (Lw.new ix).to fun j _ => snC_0 ix.ok j
  have HI : Hid (Ok S ∧ Iv S) := ⟨ix.ok, iv⟩
  dsimp only [ar8] at HL
  clear ix iv HA
  go_wp2_with fail
  generalize (w2.alloc (.cells #[.int .i64 0, .int .i64 0, .int .i64 0, .int .i64 0, .int .i64 0, .int .i64 0, .int .i64 0, .int .i64 0] 49)) = w3 at *
  generalize w2.heap.size = g at *
  go_loopw [7] (fun i wr => ∃ n : Nat, n ≤ 8 ∧ i = .int .i64 (n : Int) ∧ Hid (Lw w1 wr b S g (snC S n))) (fun i _ => 8 - (intOf i).toNat)
  case atStart => exact ⟨0, by omega, rfl, HL.out⟩
  case round =>
    clear HL
    obtain ⟨n, hn, rfl, hL⟩ := hrel
    by_cases h8 : n < 8
    · have X := xwaiting hL.out.ix n (i64_of (by omega) (by omega))
      have d8 : decide ((n : Int) < 8) = true := decide_eq_true (by omega)
      obtain ⟨s, hs, hnd, hx⟩ := sides_q HI.out.1 HI.out.2 (n : Int)
      obtain ⟨l, hll⟩ : ∃ l, l = waiL S (n : Int) := ⟨_, rfl⟩
      rw [← hll] at X hnd hx
      have HQ : Hid ((s = 2 ∨ s = 3) ∧ l.Nodup ∧ (∀ x ∈ l, plcS S x = s ∧ plcO S x = (n : Int) ∧ 0 ≤ x ∧ x < 1024) ∧ l = waiL S (n : Int)) := ⟨hs, hnd, hx, hll⟩
      have hlen : l.length ≤ 100000 := Nat.le_trans (len_ids 1024 l hnd fun x hh => by have := hx x hh; omega) (by omega)
      obtain ⟨N, hNl⟩ : ∃ N, N = l.length := ⟨_, rfl⟩
      rw [← hNl] at hlen
      have HN : Hid (N = l.length) := hNl
      clear hs hnd hx hll hNl
      go_wp2_with fail
      refine X.mono ?_
      clear X
      rintro e w4 ⟨v, rfl, f4, o4⟩
      have H4 : Hid (Lw w1 w4 b S g (snJ S n l 0)) := (hL.out.keep0 f4).to fun j _ => snJ_0 S n l j
      obtain ⟨xa, xc, hv, _⟩ := o4.form
      rw [← HN.out] at hv
      subst hv
      obtain ⟨BB, hBB⟩ : ∃ BB, BB = wr.heap.size := ⟨_, rfl⟩
      rw [← hBB] at o4
      have HO : Hid (OI BB w4 (.slice xa N xc) l) := o4
      clear f4 o4 hL hBB
      go_wp2_with fail
      go_loopw [9, 10] (fun u i wq => ∃ (j : Nat) (z : Int), j ≤ N ∧ i = .int .i64 (j : Int) ∧ u = .int .i64 z ∧ Hid ((0 < j → z = s) ∧ Lw w1 wq b S g (snJ S n l j) ∧ OI BB wq (.slice xa N xc) l)) (fun _ i _ => N - (intOf i).toNat)
      case atStart => exact ⟨0, 0, by omega, rfl, rfl, fun h => absurd h (by omega), H4.out, HO.out⟩
      case round =>
        clear H4 HO
        obtain ⟨j, z, hj, rfl, rfl, hI⟩ := hrel
        by_cases hjN : j < N
        · have hjL : j < l.length := by rw [← HN.out]; exact hjN
          obtain ⟨a, cap, hv, hnn⟩ := hI.out.2.2.form
          simp only [Value.slice.injEq] at hv
          obtain ⟨rfl, hNN, rfl⟩ := hv
          clear hNN
          obtain ⟨gw, rfl, d0⟩ := hnn j l[j] (List.getElem?_eq_getElem hjL)
          have dj : decide ((j : Int) < (N : Int)) = true := decide_eq_true (by omega)
          have ij : 0 ≤ (j : Int) ∧ (j : Int) < (N : Int) := by omega
          have HX : Hid (l[j]? = some l[j]) := List.getElem?_eq_getElem hjL
          have hxx := HQ.out.2.2.1 l[j] (List.getElem_mem hjL)
          have X := xstate hI.out.2.1.ix l[j] (i64_of (by omega) (by omega))
          obtain ⟨p1, p2, p3, p4⟩ := hxx
          rw [p1, p2] at X
          have HJ : Hid _ := snJ_up HI.out.1 HQ.out.2.2.2 HQ.out.2.1 HX.out
          clear p1 p2 hnn
          generalize l[j] = x at *
          rcases HQ.out.1 with hs | hs
          · rw [hs] at X
            have HS : Hid (s = 2) := hs
            clear hs
            by_cases hj0 : j = 0
            · have dz : ((j : Int) == 0) = true := by
                have : (j : Int) = 0 := by omega
                rw [this]; rfl
              clear hj0
              go_wp2_with fail
              refine X.mono ?_
              clear X
              rintro e w5 ⟨rfl, f5⟩
              have o5 := hI.out.2.2.keep0 f5
              have H5 : Hid (Lw w1 w5 b S g (snJ S n l j)) := hI.out.2.1.keep0 f5
              have d1 : w5.cell? ⟨gw, j, none⟩ = some (.int .i64 x) := cell_keep f5 d0 (fun h => h)
              have HO : Hid (OI BB w5 (.slice (some ⟨gw, 0, none⟩) N xc) l) := o5
              clear f5 o5 hI
              by_cases hx8 : x < 8
              · have dx : decide (x < 8) = true := decide_eq_true hx8
                obtain ⟨k, rfl⟩ : ∃ k : Nat, x = (k : Int) := ⟨x.toNat, by omega⟩
                have hk : k < 8 := by omega
                have c0 := H5.out.cell hk
                have z0 := H5.out.frozen k
                have HE : Hid (Lw w1 (w5.setCell ⟨g, k, none⟩ (.int .i64 1)) b S g (snJ S n l (j + 1)) ∧ OI BB (w5.setCell ⟨g, k, none⟩ (.int .i64 1)) (.slice (some ⟨gw, 0, none⟩) N xc) l) := by
                  have := H5.out.set (f' := snJ S n l (j + 1)) hk (fun i _ hi => HJ.out.2.2 i (fun e => hi (by omega)))
                  rw [HJ.out.2.1] at this
                  exact ⟨this, HO.out.lw H5.out⟩
                rw [HJ.out.1] at c0
                clear H5 HO HJ
                go_wp2_with fail
                go_roundw
                case rel => exact ⟨j + 1, 2, by omega, by go_num, rfl, fun _ => HS.out.symm, HE.out.1, HE.out.2⟩
                case measure => simp [intOf]; omega
              · have dx : decide (x < 8) = false := decide_eq_false hx8
                have HE : Hid (Lw w1 w5 b S g (snJ S n l (j + 1)) ∧ OI BB w5 (.slice (some ⟨gw, 0, none⟩) N xc) l) := ⟨H5.out.to fun i hi => HJ.out.2.2 i (fun e => by omega), HO.out⟩
                clear H5 HO HJ
                go_wp2_with fail
                go_roundw
                case rel => exact ⟨j + 1, 2, by omega, by go_num, rfl, fun _ => HS.out.symm, HE.out.1, HE.out.2⟩
                case measure => simp [intOf]; omega
            · have dz : ((j : Int) == 0) = false := by
                have : (j : Int) ≠ 0 := by omega
                simpa using this
              obtain rfl : z = 2 := (hI.out.1 (by omega)).trans HS.out
              clear hj0
              go_wp2_with fail
              refine X.mono ?_
              clear X
              rintro e w5 ⟨rfl, f5⟩
              have o5 := hI.out.2.2.keep0 f5
              have H5 : Hid (Lw w1 w5 b S g (snJ S n l j)) := hI.out.2.1.keep0 f5
              have d1 : w5.cell? ⟨gw, j, none⟩ = some (.int .i64 x) := cell_keep f5 d0 (fun h => h)
              have HO : Hid (OI BB w5 (.slice (some ⟨gw, 0, none⟩) N xc) l) := o5
              clear f5 o5 hI
              by_cases hx8 : x < 8
              · have dx : decide (x < 8) = true := decide_eq_true hx8
                obtain ⟨k, rfl⟩ : ∃ k : Nat, x = (k : Int) := ⟨x.toNat, by omega⟩
                have hk : k < 8 := by omega
                have c0 := H5.out.cell hk
                have z0 := H5.out.frozen k
                have HE : Hid (Lw w1 (w5.setCell ⟨g, k, none⟩ (.int .i64 1)) b S g (snJ S n l (j + 1)) ∧ OI BB (w5.setCell ⟨g, k, none⟩ (.int .i64 1)) (.slice (some ⟨gw, 0, none⟩) N xc) l) := by
                  have := H5.out.set (f' := snJ S n l (j + 1)) hk (fun i _ hi => HJ.out.2.2 i (fun e => hi (by omega)))
                  rw [HJ.out.2.1] at this
                  exact ⟨this, HO.out.lw H5.out⟩
                rw [HJ.out.1] at c0
                clear H5 HO HJ
                go_wp2_with fail
                go_roundw
                case rel => exact ⟨j + 1, 2, by omega, by go_num, rfl, fun _ => HS.out.symm, HE.out.1, HE.out.2⟩
                case measure => simp [intOf]; omega
              · have dx : decide (x < 8) = false := decide_eq_false hx8
                have HE : Hid (Lw w1 w5 b S g (snJ S n l (j + 1)) ∧ OI BB w5 (.slice (some ⟨gw, 0, none⟩) N xc) l) := ⟨H5.out.to fun i hi => HJ.out.2.2 i (fun e => by omega), HO.out⟩
                clear H5 HO HJ
                go_wp2_with fail
                go_roundw
                case rel => exact ⟨j + 1, 2, by omega, by go_num, rfl, fun _ => HS.out.symm, HE.out.1, HE.out.2⟩
                case measure => simp [intOf]; omega
          · rw [hs] at X
            have HS : Hid (s = 3) := hs
            clear hs
            by_cases hj0 : j = 0
            · have dz : ((j : Int) == 0) = true := by
                have : (j : Int) = 0 := by omega
                rw [this]; rfl
              clear hj0
              go_wp2_with fail
              refine X.mono ?_
              clear X
              rintro e w5 ⟨rfl, f5⟩
              have o5 := hI.out.2.2.keep0 f5
              have H5 : Hid (Lw w1 w5 b S g (snJ S n l j)) := hI.out.2.1.keep0 f5
              have d1 : w5.cell? ⟨gw, j, none⟩ = some (.int .i64 x) := cell_keep f5 d0 (fun h => h)
              have HO : Hid (OI BB w5 (.slice (some ⟨gw, 0, none⟩) N xc) l) := o5
              clear f5 o5 hI
              by_cases hx8 : x < 8
              · have dx : decide (x < 8) = true := decide_eq_true hx8
                obtain ⟨k, rfl⟩ : ∃ k : Nat, x = (k : Int) := ⟨x.toNat, by omega⟩
                have hk : k < 8 := by omega
                have c0 := H5.out.cell hk
                have z0 := H5.out.frozen k
                have HE : Hid (Lw w1 (w5.setCell ⟨g, k, none⟩ (.int .i64 1)) b S g (snJ S n l (j + 1)) ∧ OI BB (w5.setCell ⟨g, k, none⟩ (.int .i64 1)) (.slice (some ⟨gw, 0, none⟩) N xc) l) := by
                  have := H5.out.set (f' := snJ S n l (j + 1)) hk (fun i _ hi => HJ.out.2.2 i (fun e => hi (by omega)))
                  rw [HJ.out.2.1] at this
                  exact ⟨this, HO.out.lw H5.out⟩
                rw [HJ.out.1] at c0
                clear H5 HO HJ
                go_wp2_with fail
                go_roundw
                case rel => exact ⟨j + 1, 3, by omega, by go_num, rfl, fun _ => HS.out.symm, HE.out.1, HE.out.2⟩
                case measure => simp [intOf]; omega
              · have dx : decide (x < 8) = false := decide_eq_false hx8
                have HE : Hid (Lw w1 w5 b S g (snJ S n l (j + 1)) ∧ OI BB w5 (.slice (some ⟨gw, 0, none⟩) N xc) l) := ⟨H5.out.to fun i hi => HJ.out.2.2 i (fun e => by omega), HO.out⟩
                clear H5 HO HJ
                go_wp2_with fail
                go_roundw
                case rel => exact ⟨j + 1, 3, by omega, by go_num, rfl, fun _ => HS.out.symm, HE.out.1, HE.out.2⟩
                case measure => simp [intOf]; omega
            · have dz : ((j : Int) == 0) = false := by
                have : (j : Int) ≠ 0 := by omega
                simpa using this
              obtain rfl : z = 3 := (hI.out.1 (by omega)).trans HS.out
              clear hj0
              go_wp2_with fail
              refine X.mono ?_
              clear X
              rintro e w5 ⟨rfl, f5⟩
              have o5 := hI.out.2.2.keep0 f5
              have H5 : Hid (Lw w1 w5 b S g (snJ S n l j)) := hI.out.2.1.keep0 f5
              have d1 : w5.cell? ⟨gw, j, none⟩ = some (.int .i64 x) := cell_keep f5 d0 (fun h => h)
              have HO : Hid (OI BB w5 (.slice (some ⟨gw, 0, none⟩) N xc) l) := o5
              clear f5 o5 hI
              by_cases hx8 : x < 8
              · have dx : decide (x < 8) = true := decide_eq_true hx8
                obtain ⟨k, rfl⟩ : ∃ k : Nat, x = (k : Int) := ⟨x.toNat, by omega⟩
                have hk : k < 8 := by omega
                have c0 := H5.out.cell hk
                have z0 := H5.out.frozen k
                have HE : Hid (Lw w1 (w5.setCell ⟨g, k, none⟩ (.int .i64 1)) b S g (snJ S n l (j + 1)) ∧ OI BB (w5.setCell ⟨g, k, none⟩ (.int .i64 1)) (.slice (some ⟨gw, 0, none⟩) N xc) l) := by
                  have := H5.out.set (f' := snJ S n l (j + 1)) hk (fun i _ hi => HJ.out.2.2 i (fun e => hi (by omega)))
                  rw [HJ.out.2.1] at this
                  exact ⟨this, HO.out.lw H5.out⟩
                rw [HJ.out.1] at c0
                clear H5 HO HJ
                go_wp2_with fail
                go_roundw
                case rel => exact ⟨j + 1, 3, by omega, by go_num, rfl, fun _ => HS.out.symm, HE.out.1, HE.out.2⟩
                case measure => simp [intOf]; omega
              · have dx : decide (x < 8) = false := decide_eq_false hx8
                have HE : Hid (Lw w1 w5 b S g (snJ S n l (j + 1)) ∧ OI BB w5 (.slice (some ⟨gw, 0, none⟩) N xc) l) := ⟨H5.out.to fun i hi => HJ.out.2.2 i (fun e => by omega), HO.out⟩
                clear H5 HO HJ
                go_wp2_with fail
                go_roundw
                case rel => exact ⟨j + 1, 3, by omega, by go_num, rfl, fun _ => HS.out.symm, HE.out.1, HE.out.2⟩
                case measure => simp [intOf]; omega
        · obtain rfl : j = N := by omega
          have dj : decide ((j : Int) < (j : Int)) = false := decide_eq_false (by omega)
          have HE : Hid (Lw w1 wr b S g (snC S (n + 1))) := hI.out.2.1.to fun c _ => by
            rw [snC_up HI.out.1]
            unfold snJ
            rw [HN.out, List.take_length, HQ.out.2.2.2]
          clear hI
          go_wp2_with fail
          go_roundw
          case rel => exact ⟨n + 1, by omega, by go_num, HE⟩
          case measure => simp [intOf]; omega
    · have H8 : Hid (n = 8) := by show n = 8; omega
      have d8 : decide ((n : Int) < 8) = false := decide_eq_false (by omega)
      have HLx : Hid (Lw w1 wr b S g (snC S 8)) := by
        have := hL.out
        rw [H8.out] at this
        exact this
      clear hL h8
      go_wp2_with fail
      go_loopw [13] (fun i wr => ∃ t : Nat, t ≤ 8 ∧ i = .int .i64 (t : Int) ∧ Hid (Lw w1 wr b S g (snC S 8))) (fun i _ => 8 - (intOf i).toNat)
      case atStart => exact ⟨0, by omega, rfl, HLx.out⟩
      case round =>
        clear HLx
        obtain ⟨t, ht2, rfl, hL⟩ := hrel
        by_cases h9 : t < 8
        · have X := xstate hL.out.ix t (i64_of (by omega) (by omega))
          have d9 : decide ((t : Int) < 8) = true := decide_eq_true (by omega)
          go_wp2_with fail
          refine X.mono ?_
          clear X
          rintro e w4 ⟨rfl, f4⟩
          have H4 : Hid (Lw w1 w4 b S g (snC S 8)) := hL.out.keep0 f4
          have c0 := H4.out.cell h9
          have HD : Hid (snC S 8 (t : Int) = if (plcS S t = 2 ∨ plcS S t = 3) ∧ plcO S t < 8 then 1 else 0) := rfl
          clear f4 hL
          generalize plcS S (t : Int) = s at *
          generalize plcO S (t : Int) = oo at *
          by_cases e2 : s = 2
          · have b2 : (s == 2) = true := by simpa using e2
            by_cases e8 : oo < 8
            · have b8 : decide (oo < 8) = true := decide_eq_true e8
              have : snC S 8 (t : Int) = 1 := by rw [HD.out, if_pos ⟨Or.inl e2, e8⟩]
              rw [this] at c0
              clear this HD e2
              go_wp2_with fail
              go_roundw
              case rel => exact ⟨t + 1, by omega, by go_num, H4⟩
              case measure => simp [intOf]; omega
            · have b8 : decide (oo < 8) = false := decide_eq_false e8
              clear HD e2 c0
              go_wp2_with fail
              go_roundw
              case rel => exact ⟨t + 1, by omega, by go_num, H4⟩
              case measure => simp [intOf]; omega
          · have b2 : (s == 2) = false := by simpa using e2
            by_cases e3 : s = 3
            · have b3 : (s == 3) = true := by simpa using e3
              by_cases e8 : oo < 8
              · have b8 : decide (oo < 8) = true := decide_eq_true e8
                have : snC S 8 (t : Int) = 1 := by rw [HD.out, if_pos ⟨Or.inr e3, e8⟩]
                rw [this] at c0
                clear this HD e2 e3
                go_wp2_with fail
                go_roundw
                case rel => exact ⟨t + 1, by omega, by go_num, H4⟩
                case measure => simp [intOf]; omega
              · have b8 : decide (oo < 8) = false := decide_eq_false e8
                clear HD e2 e3 c0
                go_wp2_with fail
                go_roundw
                case rel => exact ⟨t + 1, by omega, by go_num, H4⟩
                case measure => simp [intOf]; omega
            · have b3 : (s == 3) = false := by simpa using e3
              clear HD e2 e3 c0
              go_wp2_with fail
              go_roundw
              case rel => exact ⟨t + 1, by omega, by go_num, H4⟩
              case measure => simp [intOf]; omega
        · obtain rfl : t = 8 := by omega
          go_wp2_with fail
          go_ret
          exact ⟨rfl, bel_law HF.out hL.out⟩

end Go.Proofs.Ytjobdfkfongjaaa

/- IpSidP -/
namespace Go.Proofs.Ytjobdfkfongjaaa
open Go.ChangeShapes Go.WideShapes Go.ChangeAt Go.RowKit Go.Deep

set_option maxRecDepth 100000 in
theorem lsides_lifted (os : Os) (started : os.Started) (H : Type) (enc : TypeId × Value → H) :
    ReturnsInHanded {} Try.checked os 5 .any (Rows.ipcSidesSpec.pre6 enc Try.prog Try.f5 Rows.ipcSidesRow.domain false) (Rows.ipcSidesSpec.post enc Try.prog Try.f5 false true false false) := by
  refine returnsInHanded_of_change (C := Try.checked) own_knob started (by kernel_rfl) Try.func5
    (ChangeSpec.witness6 (enc := enc) (C := Try.checked) false ⟨#[], #[.slice none 0 0], []⟩ 8 (by kernel_rfl) (by kernel_rfl) (by kernel_rfl) (by kernel_rfl)) ?_
  intro W base args ds gs before hval0 hW hcnd _
  have hval : ∀ (j : Nat) t v, Try.f5.params[j]? = some t → args[j]? = some v → Value.okWide Try.prog W .any base t v := hval0
  have hW' := hW
  obtain ⟨p, q, hA0, hV, rfl, hfz, hnd⟩ := hW
  have hA : DataW.TrodAll enc Try.prog W 0 (fun _ => true) true Try.f5.params.toList args.toList ds p := hA0
  rw [Try.params5] at hA hval
  obtain ⟨v0, vs0, d0, ds0, p0, q0, hargs, rfl, rfl, h0, r0⟩ := trodAll_cons hA
  obtain ⟨rfl, rfl, rfl⟩ := trodAll_nil r0
  obtain rfl : args = #[v0] := by cases args; simp_all
  obtain ⟨rfl, rfl⟩ := trodVars_none hV
  have k0 := h0
  have lt0 : ∀ x ∈ p0, x.block < W.heap.size := by obtain ⟨m, hm⟩ := k0; exact DataW.trod_lt m _ _ _ hm
  obtain ⟨l0, len0, cap0, rfl⟩ := okWide_slice Try.underlying22 (hval 0 22 v0 rfl rfl)
  obtain ⟨hl0, hacts0⟩ : len0 ≤ 9223372036854775807 ∧ (∃ A, Acs W l0 len0 A) := by
    obtain ⟨fuel, hf⟩ := h0
    exact acs_open (by simpa [Value.cells] using hf)
  clear hA0 hval0
  refine (lsides_any l0 len0 cap0 W hl0 hacts0).mono fun e W' ⟨he, bel⟩ => ?_
  subst he
  exact ⟨_, rfl, _, _, _, [], _, [], hW', trodAll_mk1 (shut_bool Try.underlying4 _), (trodAll_cons_mk (Below.trod laid_out (by kernel_rfl) (of_decide_eq_true (by kernel_rfl)) k0 bel lt0) trodAll_mk0), rfl, bel.frame _, fun h => by cases h⟩

theorem ipcSides_holds : Rows.IpcSidesSaid :=
  OpenClaim.holds_of_wide 5 Try.f5 rfl rfl rfl rfl rfl rfl rfl ⟨rfl, rfl, rfl, rfl, rfl⟩ rfl rfl rfl rfl rfl (by kernel_rfl) Try.func5 (by kernel_rfl)
    (of_decide_eq_true (by kernel_rfl)) (by unfold Func.isWrapper; first | (rw [if_pos (by decide +kernel)]; kernel_rfl) | (rw [if_neg (by decide +kernel)]; exact ⟨rfl, rfl⟩))
    (fun os started H enc _ => lsides_lifted os started H enc)
#print axioms ipcSides_holds

end Go.Proofs.Ytjobdfkfongjaaa

