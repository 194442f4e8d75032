/-
  The contracts of the document's Dma and Take (package viceroyref10) over the translation. No statement is proved here.
-/
import Derived.Test.YthmombgogmgobaaIoRefD
import Derived.Test.YthmombgogmgobaaIoDma
namespace Go.Proofs.Ythmombgogmgobaa
open Go.RowKit

/-- What the document's access leaves. -/
def DmadR (w : World) (j : Nat) (O : Nat → Prop) (P bf nf : Nat) (bs' : List UInt8) (S' : Io) (w' : World) : Prop :=
  Fr (fun k => O k ∨ k = bf) w w' ∧ IsRef w' P bf nf bs' ∧ ∃ O', IsRi w' j O' S' ∧ ∀ k, O' k → O k ∨ w.heap.size ≤ k
theorem DmadR.chg {w w' : World} {b : Nat} {O : Nat → Prop} {S : Io} {P bf nf : Nat} {bs : List UInt8} (hR : IsRef w P bf nf bs) (d1 : ¬ O P) (d2 : ¬ O bf) (c : ChgR w b O S w') : DmadR w b O P bf nf bs S w' :=
  ⟨c.1.mono (fun _ _ h => Or.inl h), hR.keep c.1 d1 d2, c.2⟩
theorem ChgR.trans {w w1 w2 : World} {b : Nat} {O O1 : Nat → Prop} {S : Io} (f : Fr O w w1) (ho : ∀ k, O1 k → O k ∨ w.heap.size ≤ k) (c : ChgR w1 b O1 S w2) : ChgR w b O S w2 := by
  obtain ⟨g, O2, h, k⟩ := c
  refine ⟨⟨g.os.trans f.os, g.tape.trans f.tape, g.output.trans f.output, Nat.le_trans f.size g.size, fun i hi hn => (g.block i (Nat.lt_of_lt_of_le hi f.size) (fun e => ?_)).trans (f.block i hi hn)⟩, O2, h, fun i hi => ?_⟩
  · rcases ho i e with e | e
    · exact hn e
    · omega
  · rcases k i hi with e | e
    · exact ho i e
    · exact Or.inr (Nat.le_trans f.size e)
theorem ChgR.more {w w1 w2 : World} {b : Nat} {O : Nat → Prop} {S : Io} (c : ChgR w b O S w1) (f : Fr none' w1 w2) : ChgR w b O S w2 := by
  obtain ⟨g, O', h, k⟩ := c
  exact ⟨g.trans (f.mono (fun _ _ h => h.elim)), O', h.keep0 f, k⟩
theorem chgR_slice {w W w' : World} {b : Nat} {v : Value} {S : Io} {g' o' n' cap' : Nat} {l : List Rc} (f0 : Fr none' w W) (h : RiAt W b v S) (hf : Fr (fun k => some k = v.ownBlock) W w') (hr : RcS w' (.slice (some ⟨g', o', none⟩) n' cap') l) (hl : l.length ≤ 8) (ho : v.ownBlock = some g' ∨ w.heap.size ≤ g') (hn : b ≠ g') :
    ChgR w b (riO b v) { S with re := l } (w'.setCell ⟨b, 56, none⟩ (.slice (some ⟨g', o', none⟩) n' cap')) := by
  have h' := h.setRe hf hr hl (fun e => hn (by simpa [Value.ownBlock] using e))
  refine ⟨((f0.mono (fun _ _ h => h.elim)).trans (hf.mono (fun k _ e => (Or.inr e : riO b v k)))).setCell (p := ⟨b, 56, none⟩) (Or.inr (Or.inl rfl)) _, _, ⟨_, h', rfl⟩, fun k hk => ?_⟩
  rcases hk with hk | hk
  · exact Or.inl (Or.inl hk)
  · have e : k = g' := by simpa [Value.ownBlock] using hk
    subst e
    rcases ho with ho | ho
    · exact Or.inl (Or.inr ho.symm)
    · exact Or.inr ho

set_option maxHeartbeats 1000000 in
theorem rdma_out (w : World) (b : Nat) (P : Nat) (s a : Int) (wr : Bool) (x : Nat) (hs : isS s = false) :
    Calls Try.prog 32 #[.pointer (some ⟨b, 0, none⟩), .pointer (some ⟨P, 0, none⟩), .int .i64 s, .int .i64 a, .bool wr, .int .u8 (x : Int)] w fun e w' => e = .returned (.tuple #[.int .u8 0, .int .i64 100]) ∧ w' = w := by
  go_enter Try.func32, Try.ntmps32
  go_wp2_with fail
  refine (ris_any _ _).mono ?_
  rintro e w1 ⟨rfl, rfl⟩
  rw [hs]
  go_wp2_with fail
  go_ret2
  exact ⟨rfl, rfl⟩

set_option maxHeartbeats 1000000 in
theorem rdma_arg (w : World) (b : Nat) (P : Nat) (s a : Int) (wr : Bool) (x : Nat) (hs : isS s = true) (ha : isAd a = false) :
    Calls Try.prog 32 #[.pointer (some ⟨b, 0, none⟩), .pointer (some ⟨P, 0, none⟩), .int .i64 s, .int .i64 a, .bool wr, .int .u8 (x : Int)] w fun e w' => e = .returned (.tuple #[.int .u8 0, .int .i64 1]) ∧ w' = w := by
  have ha' := ha
  unfold isAd at ha'
  by_cases hn : a < 0
  · have t1 : decide (a < 0) = true := decide_eq_true hn
    clear ha'
    go_enter Try.func32, Try.ntmps32
    go_wp2_with fail
    refine (ris_any _ _).mono ?_
    rintro e w1 ⟨rfl, rfl⟩
    rw [hs]
    go_wp2_with fail
    go_ret2
    exact ⟨rfl, rfl⟩
  · have t1 : decide (a < 0) = false := decide_eq_false hn
    have t2 : decide (65535 < a) = true := decide_eq_true (by simp at ha'; omega)
    clear ha'
    go_enter Try.func32, Try.ntmps32
    go_wp2_with fail
    refine (ris_any _ _).mono ?_
    rintro e w1 ⟨rfl, rfl⟩
    rw [hs]
    go_wp2_with fail
    go_ret2
    exact ⟨rfl, rfl⟩

/-- Up to what 'find' tells, whatever is to be done. -/
theorem rea_facts (w : World) (j : Nat) (v : Value) (S : Io) (P bf nf : Nat) (bs : List UInt8) (s a : Nat) (wt K : Int) (d1 : P ≠ j) (d2 : bf ≠ j) (hs : s < 16) (ha : a < 65536) (hK : reaK bs nf S s ((a / 64 : Nat) : Int) wt = K) (h : RiAt w j v S) (hR : IsRef w P bf nf bs) :
    Calls Try.prog 59 #[.pointer (some ⟨j, 0, none⟩), .pointer (some ⟨P, 0, none⟩), .int .i64 (s : Int), .int .i64 ((a : Int) / 64), .int .i64 wt] w fun e w' =>
      e = .returned (.tuple #[.int .i64 (reaF bs nf S s ((a / 64 : Nat) : Int) wt), .int .i64 K]) ∧ Fr (at' j) w w' ∧ RiAt w' j v (fndS bs nf S s ((a / 64 : Nat) : Int) wt) := by
  have h1 := rfind_at w j v S P bf nf bs s (a / 64) wt h hR d1 d2 hs (by omega)
  rw [hK] at h1
  have eq : ((a / 64 : Nat) : Int) = (a : Int) / 64 := by omega
  rw [eq] at h1 ⊢
  exact h1

set_option maxHeartbeats 2000000 in
theorem rdma_full (w : World) (j : Nat) (v : Value) (S : Io) (P bf nf : Nat) (bs : List UInt8) (s a : Nat) (wr : Bool) (x : Nat) (h : RiAt w j v S) (hR : IsRef w P bf nf bs) (d1 : P ≠ j) (d2 : bf ≠ j) (hs : s < 16) (ha : a < 65536)
    (K : Int) (hK : reaK bs nf S s ((a / 64 : Nat) : Int) (wantI wr) = K) (hk : K ≠ 0) (h8 : S.re.length = 8) :
    Calls Try.prog 32 #[.pointer (some ⟨j, 0, none⟩), .pointer (some ⟨P, 0, none⟩), .int .i64 (s : Int), .int .i64 (a : Int), .bool wr, .int .u8 (x : Int)] w fun e w' => e = .returned (.tuple #[.int .u8 0, .int .i64 101]) ∧ ChgR w j (riO j v) { fndS bs nf S s ((a / 64 : Nat) : Int) (wantI wr) with lo := wrap64 ((fndS bs nf S s ((a / 64 : Nat) : Int) (wantI wr)).lo + 1) } w' := by
  have hre : (fndS bs nf S s ((a / 64 : Nat) : Int) (wantI wr)).re.length = 8 := by unfold fndS; cases okL s ((a / 64 : Nat) : Int) (wantI wr) (S.ln (((a / 64 : Nat) : Int) % 8).toNat) <;> simp only [cond_true, cond_false]; split <;> exact h8; exact h8
  have hC := fun w' => rea_facts w' j v S P bf nf bs s a (wantI wr) K d1 d2 hs ha hK
  obtain ⟨S1, hS1⟩ : ∃ S1, S1 = fndS bs nf S s ((a / 64 : Nat) : Int) (wantI wr) := ⟨_, rfl⟩
  obtain ⟨F, hF⟩ : ∃ F, F = reaF bs nf S s ((a / 64 : Nat) : Int) (wantI wr) := ⟨_, rfl⟩
  rw [← hS1, ← hF] at hC
  rw [← hS1] at hre ⊢
  have t1 : decide ((a : Int) < 0) = false := decide_eq_false (by omega)
  have t2 : decide (65535 < (a : Int)) = false := decide_eq_false (by omega)
  have hs' : isS (s : Int) = true := isS_iff.mpr (by omega)
  have tk : (K != 0) = true := by simp [hk]
  clear hS1 hF hK hk
  cases wr with
  | false =>
    have hC1 : ∀ w', RiAt w' j v S → IsRef w' P bf nf bs → Calls Try.prog 59 #[.pointer (some ⟨j, 0, none⟩), .pointer (some ⟨P, 0, none⟩), .int .i64 (s : Int), .int .i64 ((a : Int) / 64), .int .i64 1] w' fun e w'' => e = .returned (.tuple #[.int .i64 F, .int .i64 K]) ∧ Fr (at' j) w' w'' ∧ RiAt w'' j v S1 := hC
    clear hC
    go_enter Try.func32, Try.ntmps32
    go_wp2_with fail
    refine (ris_any _ _).mono ?_
    rintro e w1 ⟨rfl, rfl⟩
    rw [hs']
    go_wp2_with fail
    refine (hC1 _ h hR).mono ?_
    rintro e w2 ⟨rfl, f2, h2⟩
    obtain ⟨aa, cap, hv⟩ := h2.re.form
    rw [hre] at hv
    obtain ⟨c1, c2⟩ := h2.cells
    rw [hv] at c1
    have z1 := h2.frozen 57
    have h3 := h2.setLo (wrap64 (S1.lo + 1))
    have HI : Hid (ChgR w1 j (riO j v) { S1 with lo := wrap64 (S1.lo + 1) } (w2.setCell ⟨j, 57, none⟩ (.int .i64 (wrap64 (S1.lo + 1))))) := ChgR.at ((f2.trans (fr_set _ _ _ _ (Fr.refl _ _))).mono (fun _ _ e => Or.inl e)) h3
    clear h3 h2 f2 hC1 h hR hv hre
    go_wp2_with fail
    go_ret2
    exact ⟨rfl, HI.out⟩
  | true =>
    have hC1 : ∀ w', RiAt w' j v S → IsRef w' P bf nf bs → Calls Try.prog 59 #[.pointer (some ⟨j, 0, none⟩), .pointer (some ⟨P, 0, none⟩), .int .i64 (s : Int), .int .i64 ((a : Int) / 64), .int .i64 2] w' fun e w'' => e = .returned (.tuple #[.int .i64 F, .int .i64 K]) ∧ Fr (at' j) w' w'' ∧ RiAt w'' j v S1 := hC
    clear hC
    go_enter Try.func32, Try.ntmps32
    go_wp2_with fail
    refine (ris_any _ _).mono ?_
    rintro e w1 ⟨rfl, rfl⟩
    rw [hs']
    go_wp2_with fail
    refine (hC1 _ h hR).mono ?_
    rintro e w2 ⟨rfl, f2, h2⟩
    obtain ⟨aa, cap, hv⟩ := h2.re.form
    rw [hre] at hv
    obtain ⟨c1, c2⟩ := h2.cells
    rw [hv] at c1
    have z1 := h2.frozen 57
    have h3 := h2.setLo (wrap64 (S1.lo + 1))
    have HI : Hid (ChgR w1 j (riO j v) { S1 with lo := wrap64 (S1.lo + 1) } (w2.setCell ⟨j, 57, none⟩ (.int .i64 (wrap64 (S1.lo + 1))))) := ChgR.at ((f2.trans (fr_set _ _ _ _ (Fr.refl _ _))).mono (fun _ _ e => Or.inl e)) h3
    clear h3 h2 f2 hC1 h hR hv hre
    go_wp2_with fail
    go_ret2
    exact ⟨rfl, HI.out⟩

end Go.Proofs.Ythmombgogmgobaa
