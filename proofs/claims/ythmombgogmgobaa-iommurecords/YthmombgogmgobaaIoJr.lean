/-
  Proved: the statement IommuRecordsSaid: for every list of pages and every list of flags the law IommuRecords of the Go text returns true, and each argument reads afterwards as it read before. No condition but the form's own.
-/
import Derived.Test.YthmombgogmgobaaIoOpen
import Derived.Test.YthmombgogmgobaaIoConfP
import Derived.Test.YthmombgogmgobaaIoAwake
import Derived.Test.YthmombgogmgobaaIoSame
/- IoNums -/
namespace Go.Proofs.Ythmombgogmgobaa
open Go.ChangeShapes Go.WideShapes Go.ChangeAt Go.RowKit Go.Deep

/-- A slice of numbers. -/
def Nums (w : World) (a0 : Option Addr) (len : Nat) : Prop :=
  ∀ k, k < len → ∃ (b o : Nat) (n : Int), a0 = some ⟨b, o, none⟩ ∧ w.cell? ⟨b, o + k, none⟩ = some (.int .i64 n)

theorem nums_open {H : Type} {enc : TypeId × Value → H} {W : World} {fuel : Nat} {a0 : Option Addr} {len cap : Nat} {y : DataW H × List MemPlace} (hf : DataW.trod enc Try.prog W 0 (fun _ => true) true fuel 59 [.slice a0 len cap] = some y) :
    len ≤ 9223372036854775807 ∧ Nums W a0 len := by
  rcases open_slice Try.underlying59 hf with ⟨hcs, _⟩ | ⟨a, l, c, m, n, D, Pl, hcs, _, hl, hm, hmm, hx, hel⟩
  · simp only [List.cons.injEq, Value.slice.injEq, and_true] at hcs
    obtain ⟨rfl, rfl, rfl⟩ := hcs
    exact ⟨by omega, fun k hk => by omega⟩
  · simp only [List.cons.injEq, Value.slice.injEq, and_true] at hcs
    obtain ⟨rfl, rfl, rfl⟩ := hcs
    have hmm' : m = cap := by simpa using hmm
    subst hmm'
    refine ⟨by simp only [maxLen] at hm; omega, fun k hk => ?_⟩
    rw [cells_int] at hel
    obtain ⟨b, o, spot⟩ := a
    have hspot : spot = none := by
      obtain ⟨cs', h1, _⟩ := hel 0 (by omega)
      obtain ⟨_, hlen, hc⟩ := World.cells?_some h1
      have := hc 0 (by omega)
      rw [List.getElem?_eq_getElem (by omega)] at this
      simpa [Addr.add] using World.cell?_spot this
    subst hspot
    obtain ⟨cs', h1, h2⟩ := hel k (by omega)
    obtain ⟨_, hlen, hc⟩ := World.cells?_some h1
    have h0 := hc 0 (by omega)
    rw [add_lit', add_lit', Nat.add_zero, Nat.mul_one] at h0
    match cs', hlen with
    | [c], _ =>
      obtain ⟨q, e, _, _⟩ := DataW.trod_int Try.underlying3 h2
      simp only [List.cons.injEq, and_true] at e
      subst e
      exact ⟨b, o, q, rfl, h0⟩

/-- A slice of flags. -/
def Flags (w : World) (a0 : Option Addr) (len : Nat) : Prop :=
  ∀ k, k < len → ∃ (b o : Nat) (n : Bool), a0 = some ⟨b, o, none⟩ ∧ w.cell? ⟨b, o + k, none⟩ = some (.bool n)

theorem flags_open {H : Type} {enc : TypeId × Value → H} {W : World} {fuel : Nat} {a0 : Option Addr} {len cap : Nat} {y : DataW H × List MemPlace} (hf : DataW.trod enc Try.prog W 0 (fun _ => true) true fuel 60 [.slice a0 len cap] = some y) :
    len ≤ 9223372036854775807 ∧ Flags W a0 len := by
  rcases open_slice Try.underlying60 hf with ⟨hcs, _⟩ | ⟨a, l, c, m, n, D, Pl, hcs, _, hl, hm, hmm, hx, hel⟩
  · simp only [List.cons.injEq, Value.slice.injEq, and_true] at hcs
    obtain ⟨rfl, rfl, rfl⟩ := hcs
    exact ⟨by omega, fun k hk => by omega⟩
  · simp only [List.cons.injEq, Value.slice.injEq, and_true] at hcs
    obtain ⟨rfl, rfl, rfl⟩ := hcs
    have hmm' : m = cap := by simpa using hmm
    subst hmm'
    refine ⟨by simp only [maxLen] at hm; omega, fun k hk => ?_⟩
    rw [cells_bool] at hel
    obtain ⟨b, o, spot⟩ := a
    have hspot : spot = none := by
      obtain ⟨cs', h1, _⟩ := hel 0 (by omega)
      obtain ⟨_, hlen, hc⟩ := World.cells?_some h1
      have := hc 0 (by omega)
      rw [List.getElem?_eq_getElem (by omega)] at this
      simpa [Addr.add] using World.cell?_spot this
    subst hspot
    obtain ⟨cs', h1, h2⟩ := hel k (by omega)
    obtain ⟨_, hlen, hc⟩ := World.cells?_some h1
    have h0 := hc 0 (by omega)
    rw [add_lit', add_lit', Nat.add_zero, Nat.mul_one] at h0
    match cs', hlen with
    | [c], _ =>
      obtain ⟨q, e, _⟩ := DataW.trod_bool Try.underlying4 h2
      simp only [List.cons.injEq, and_true] at e
      subst e
      exact ⟨b, o, q, rfl, h0⟩

end Go.Proofs.Ythmombgogmgobaa

/- IoRecsP -/
namespace Go.Proofs.Ythmombgogmgobaa
open Go.RowKit

theorem chgU_fr0 {w wa wb : World} {U U' : Nat → Prop} (f : Fr none' w wa) (u : ChgU wa U wb U') (h : ∀ k, U k → w.heap.size ≤ k) : Fr none' w wb ∧ ∀ k, U' k → w.heap.size ≤ k :=
  ⟨⟨u.1.os.trans f.os, u.1.tape.trans f.tape, u.1.output.trans f.output, Nat.le_trans f.size u.1.size, fun i hi hn => (u.1.block i (Nat.lt_of_lt_of_le hi f.size) (fun e => by have := h i e; omega)).trans (f.block i hi hn)⟩, fun k hk => by
    rcases u.2 k hk with e | e
    · exact h k e
    · exact Nat.le_trans f.size e⟩

/-- No stream has a table, nothing is remembered. -/
structure Bare (S : Io) : Prop where
  ro : S.ro = fun _ => -1
  ln : S.ln = fun _ => none
theorem bare0 : Bare io0 := ⟨rfl, rfl⟩
theorem Bare.rcd {S : Io} (h : Bare S) (x : Rc) : Bare (recS S x) := by
  unfold recS
  split
  · exact ⟨h.ro, h.ln⟩
  · exact ⟨h.ro, h.ln⟩
theorem Bare.tk {S : Io} (h : Bare S) : Bare (tkS S) := ⟨h.ro, h.ln⟩
theorem Bare.dma {S : Io} (h : Bare S) (bs : List UInt8) {s a : Int} (hs : 0 ≤ s ∧ s ≤ 15) (ha : 0 ≤ a ∧ a ≤ 65535) (wr : Bool) (b : Nat) :
    dmaV bs 16 S s a wr b = 0 ∧ dmaE bs 16 S s a wr = 101 ∧ dmaB bs 16 S s a wr b = bs ∧ dmaS bs 16 S s a wr = recS S ⟨s, a / 64, 1, wr⟩ := by
  have h1 := isS_iff.mpr hs
  have h2 := isAd_iff.mpr ha
  have hk : okL s (a / 64) (wantI wr) (S.ln ((a / 64) % 8).toNat) = false := by rw [h.ln]; rfl
  have hw : walkK bs 16 (S.ro s.toNat) (a / 64) (wantI wr) = 1 := by unfold walkK; rw [h.ro]; rfl
  have hf : fndK bs 16 S s (a / 64) (wantI wr) = 1 := by unfold fndK; rw [hk, hw]; rfl
  have hS : fndS bs 16 S s (a / 64) (wantI wr) = S := by unfold fndS; rw [hk, hw]; rfl
  have hK : dmaK bs 16 S s a wr = 1 := by unfold dmaK reaK; rw [hf]; simp
  refine ⟨?_, ?_, ?_, ?_⟩
  · unfold dmaV dmaOk; rw [h1, h2, hK]; rfl
  · unfold dmaE; rw [h1, h2, hK]; rfl
  · unfold dmaB dmaOk; rw [h1, h2, hK]; rfl
  · unfold dmaS dmaOk; rw [h1, h2, hK, hS]; rfl

/-- The desk of the law: the system, and an own list of records apart from it. -/
structure Hv (w wr : World) (x pm bm pr br bi ji : Nat) (O Q : Nat → Prop) (bs : List UInt8) (S : Io) (a : Value) (L : List Rc) : Prop where
  fr : Fr none' w wr
  bo : BoAt wr x pm bm pr br bi ji O Q bs bs S io0
  nx : ∀ u, boU x pm bm pr br O Q u → w.heap.size ≤ u
  rc : RcS wr a L
  na : ∀ g, some g = a.ownBlock → w.heap.size ≤ g ∧ ¬ boU x pm bm pr br O Q g
  ba : Bare S

section
variable {w wr w' : World} {x pm bm pr br bi ji : Nat} {O Q O' : Nat → Prop} {bs : List UInt8} {S S' : Io} {a a' : Value} {L L' : List Rc}
theorem Hv.step (h : Hv w wr x pm bm pr br bi ji O Q bs S a L) (b : BoAt w' x pm bm pr br bi ji O' Q bs bs S' io0) (u : ChgU wr (boU x pm bm pr br O Q) w' (boU x pm bm pr br O' Q)) (k : Bare S') : Hv w w' x pm bm pr br bi ji O' Q bs S' a L :=
  ⟨(chgU_fr0 h.fr u h.nx).1, b, (chgU_fr0 h.fr u h.nx).2, h.rc.keep u.1 (fun g hg => (h.na g hg).2), fun g hg => ⟨(h.na g hg).1, fun e => by
    rcases u.2 g e with e | e
    · exact (h.na g hg).2 e
    · have := h.rc.lt g hg
      omega⟩, k⟩
theorem Hv.keep0 (h : Hv w wr x pm bm pr br bi ji O Q bs S a L) (f : Fr none' wr w') : Hv w w' x pm bm pr br bi ji O Q bs S a L :=
  ⟨h.fr.trans f, h.bo.keep0 f, h.nx, h.rc.keep f (fun _ _ h => h), h.na, h.ba⟩
theorem Hv.other (h : Hv w wr x pm bm pr br bi ji O Q bs S a L) {B : Nat} (f : Fr (at' B) wr w') (h1 : w.heap.size ≤ B) (h2 : ¬ boU x pm bm pr br O Q B) (h3 : some B ≠ a.ownBlock) : Hv w w' x pm bm pr br bi ji O Q bs S a L :=
  ⟨h.fr.newer f h1, h.bo.keep f (fun k hk e => h2 (by rw [← (e : k = B)]; exact hk)), h.nx, h.rc.keep f (fun g hg e => h3 (by rw [← (e : g = B)]; exact hg)), h.na, h.ba⟩
theorem Hv.turn (h : Hv w wr x pm bm pr br bi ji O Q bs S a L) {g : Nat} (f : Fr (fun k => some k = a.ownBlock) wr w') (r : RcS w' a' L') (hg : a'.ownBlock = some g) (ho : a.ownBlock = some g ∨ g = wr.heap.size) : Hv w w' x pm bm pr br bi ji O Q bs S a' L' :=
  ⟨⟨f.os.trans h.fr.os, f.tape.trans h.fr.tape, f.output.trans h.fr.output, Nat.le_trans h.fr.size f.size, fun i hi hn => (f.block i (Nat.lt_of_lt_of_le hi h.fr.size) (fun e => by have := (h.na i e).1; omega)).trans (h.fr.block i hi hn)⟩,
    h.bo.keep f (fun k hk e => (h.na k e).2 hk), h.nx, r, fun g' hg' => by
      rw [hg] at hg'
      obtain rfl := Option.some.inj hg'
      rcases ho with ho | ho
      · exact h.na g' ho.symm
      · exact ⟨by rw [ho]; exact h.fr.size, fun e => by have := h.bo.lt _ e; omega⟩, h.ba⟩
theorem Hv.new (h : Hv w wr x pm bm pr br bi ji O Q bs S a L) : w.heap.size ≤ wr.heap.size ∧ ¬ boU x pm bm pr br O Q wr.heap.size ∧ some wr.heap.size ≠ a.ownBlock :=
  ⟨h.fr.size, fun e => by have := h.bo.lt _ e; omega, fun e => by have := h.rc.lt _ e; omega⟩
end

end Go.Proofs.Ythmombgogmgobaa

/- IoRecsWalk -/
namespace Go.Proofs.Ythmombgogmgobaa
open Go.RowKit

set_option maxHeartbeats 16000000 in
set_option maxRecDepth 100000 in
theorem iorecs_any (a0 : Option Addr) (len cap : Nat) (a1 : Option Addr) (len1 cap1 : Nat) (w : World) (hl : len ≤ 9223372036854775807) (hP : Nums w a0 len) (_hl1 : len1 ≤ 9223372036854775807) (hA : Flags w a1 len1) :
    Calls Try.prog 6 #[.slice a0 len cap, .slice a1 len1 cap1] w fun e w' => e = .returned (.bool true) ∧ Below w.heap.size w w' := by
  have HP : Hid (Nums w a0 len) := hP
  have HA : Hid (Flags w a1 len1) := hA
  clear hA hP
  go_enter Try.func6, Try.ntmps6
  go_wp2_with fail
  refine (ioawake_any _).mono ?_
  rintro e w1 ⟨rfl, f1⟩
  go_wp2_with fail
  refine (iomade_any _ none 0 0 (fun _ => ⟨0, 0, false, false, 0, 0⟩) (by omega) (fun k hk => by omega)).mono ?_
  rintro e w2 ⟨x, Ux, rfl, f2, hx, hUx⟩
  obtain ⟨bs, hbs⟩ : ∃ bs, bs = mdB (fun _ => ⟨0, 0, false, false, 0, 0⟩) 0 := ⟨_, rfl⟩
  rw [← hbs] at hx
  have F : Fr none' w w2 := f1.trans f2
  replace hUx : ∀ k, Ux k → w.heap.size ≤ k := fun k hk => Nat.le_trans f1.size (hUx k hk)
  clear f1 f2 hbs
  obtain ⟨pm, bm, pr, br, bi, ji, O, Q, h, hU⟩ := hx
  rw [hU] at hUx
  have HV : Hid (Hv w w2 x pm bm pr br bi ji O Q bs io0 (.slice none 0 0) []) := ⟨F, h, hUx, rcS_nil _, fun g hg => (by cases hg), bare0⟩
  clear F h hUx hU
  go_upto_block 0 with fail
  go_cut [7, 8, 9, 10, 11, 12, 13, 14, 15] from 23 to 124 (fun a b i p wt z e r s wx => ∃ (S : Io) (O : Nat → Prop), b = .int .i64 S.lo ∧ Hv w wx x pm bm pr br bi ji O Q bs S a S.re)
  case first =>
    go_wp2_with fail
    go_loopw [7, 8, 9] (fun a b i wr => ∃ (k : Nat) (S : Io) (O : Nat → Prop), k ≤ len ∧ k ≤ 60 ∧ i = .int .i64 k ∧ b = .int .i64 S.lo ∧ Hv w wr x pm bm pr br bi ji O Q bs S a S.re) (fun _ _ i _ => 60 - (intOf i).toNat)
    case atStart => exact ⟨0, io0, O, by omega, by omega, rfl, rfl, HV.out⟩
    case round =>
      clear HV
      obtain ⟨k, S, O, hk, hk2, rfl, rfl, hv⟩ := hrel
      by_cases hlt : k < len
      · by_cases hlt2 : k < 60
        · obtain ⟨bb, o, n, rfl, ck⟩ := HP.out k hlt
          replace ck := cell_keep hv.fr ck (fun h => h)
          have i1 : 0 ≤ (k : Int) ∧ (k : Int) < (len : Int) := by omega
          have uk1 : decide ((k : Int) < (len : Int)) = true := decide_eq_true (by omega)
          have uk2 : decide ((k : Int) < 60) = true := decide_eq_true (by omega)
          obtain ⟨z, hz⟩ : ∃ z, n.tmod 1024 = z := ⟨_, rfl⟩
          have hz1 : -1023 ≤ z ∧ z ≤ 1023 := by
            rw [← hz]
            have a := Int.tmod_lt_of_pos n (by decide : (0 : Int) < 1024)
            have b := Int.lt_tmod_of_pos n (by decide : (0 : Int) < 1024)
            omega
          have HV : Hid (Hv w wr x pm bm pr br bi ji O Q bs S u7 S.re) := hv
          clear hv
          go_upto_if 39 with fail
          clear ck
          go_cut [10] from 38 to 41 (fun p wx => ∃ q : Nat, q ≤ 1023 ∧ p = .int .i64 q ∧ wx = wr)
          case first =>
            by_cases hz0 : z < 0
            · have uz : decide (z < 0) = true := decide_eq_true hz0
              have ez : wrap64 (-z) = -z := by unfold wrap64; omega
              go_wp2_with fail
              go_meet
              exact ⟨(-z).toNat, by omega, by go_num, rfl⟩
            · have uz : decide (z < 0) = false := decide_eq_false hz0
              go_wp2_with fail
              go_meet
              exact ⟨z.toNat, by omega, by go_num, rfl⟩
          case rest =>
          obtain ⟨q, hq, rfl, hw⟩ := hcut
          replace hw := hw.symm
          subst hw
          clear hz hz1
          go_upto_region 14 with fail
          obtain ⟨W, hW⟩ : ∃ W, W = wr.alloc (.cells #[.int .i64 ((k : Int) % 16), .int .i64 (q : Int), .int .i64 1, .bool ((k : Int) % 3 == 0)] 58) := ⟨_, rfl⟩
          obtain ⟨B, hB⟩ : ∃ B, B = wr.heap.size := ⟨_, rfl⟩
          have hv1 := HV.out.keep0 ((Fr.refl none' wr).alloc (.cells #[.int .i64 ((k : Int) % 16), .int .i64 (q : Int), .int .i64 1, .bool ((k : Int) % 3 == 0)] 58))
          have rB := row_alloc wr #[.int .i64 ((k : Int) % 16), .int .i64 (q : Int), .int .i64 1, .bool ((k : Int) % 3 == 0)] 58
          have nB := HV.out.new
          rw [← hB] at rB nB ⊢
          rw [← hW] at rB hv1 ⊢
          clear hW hB HV
          obtain ⟨ff, hff⟩ : ∃ ff : Bool, ff = ((k : Int) % 3 == 0) := ⟨_, rfl⟩
          obtain ⟨ss, hss⟩ : ∃ ss : Int, ss = (k : Int) % 16 := ⟨_, rfl⟩
          rw [← hff, ← hss] at rB ⊢
          obtain ⟨d1, d2, d3, d4⟩ := hv1.ba.dma bs (s := ss) (a := 64 * (q : Int) + (k : Int)) (by omega) (by omega) ff 1
          have HRC : Hid (Bare (recS S ⟨ss, (64 * (q : Int) + (k : Int)) / 64, 1, ff⟩)) := hv1.ba.rcd _
          clear hff hss
          have hD := hv1.bo.keep0 (Fr.refl none' W).drew
          have rX := hv1.bo.row
          have hC := dma_bo W.drew x pm bm pr br bi ji O Q bs bs S io0 ss (64 * (q : Int) + (k : Int)) ff 1 (by decide) 0 101 hD d1 d2
          rw [d3, d4] at hC
          obtain ⟨k0, k1, k2, k3⟩ := row4 rB
          have HB : Hid (w.heap.size ≤ B ∧ ¬ boU x pm bm pr br O Q B ∧ some B ≠ u7.ownBlock) := nB
          have HV : Hid (Hv w W x pm bm pr br bi ji O Q bs S u7 S.re ∧ Row W B #[.int .i64 ss, .int .i64 (q : Int), .int .i64 1, .bool ff] 58) := ⟨hv1, rB⟩
          clear d1 d2 d3 d4 hv1 rB nB
          have e1 : IntKind.i64.wrap (64 * (q : Int)) = 64 * (q : Int) := by simp only [IntKind.wrap_i64]; omega
          have e2 : IntKind.i64.wrap (64 * (q : Int) + (k : Int)) = 64 * (q : Int) + (k : Int) := by simp only [IntKind.wrap_i64]; omega
          go_region_held3 (fun w' => w'.cell? ⟨x, 1, none⟩ = some (.pointer (some ⟨bi, 0, none⟩)) ∧ w'.cell? ⟨x, 0, none⟩ = some (.pointer (some ⟨pm, 0, none⟩)) ∧ w'.cell? ⟨B, 0, none⟩ = some (.int .i64 ss) ∧ w'.cell? ⟨B, 3, none⟩ = some (.bool ff)) (first | with_reducible exact ⟨rX.c1, rX.c0, k0, k3⟩ | exact ⟨rX.c1, rX.c0, k0, k3⟩) (first | (go_at_call 15; refine hC.mono ?_; rintro e w3 ⟨rfl, O1, h', u⟩; have fu := (ChgU.none (U := boU x pm bm pr br O Q) (Fr.refl none' W).drew).trans u; replace k0 := cell_keep fu.1 k0 HB.out.2.1; replace k3 := cell_keep fu.1 k3 HB.out.2.1; replace rX := h'.row))
          have hv3 := HV.out.1.step h' fu HRC.out
          have rB := HV.out.2.keep fu.1 HB.out.2.1
          have nB : ¬ boU x pm bm pr br O1 Q B := fun e => by
            rcases fu.2 B e with e | e
            · exact HB.out.2.1 e
            · have := HV.out.2.lt
              omega
          clear hD hC h' u rX HRC k0 k1 k2 k3 e1 e2 fu HV
          obtain ⟨a7, cap7, h7⟩ := hv3.rc.form
          obtain ⟨m, hm⟩ : ∃ m, m = S.re.length := ⟨_, rfl⟩
          rw [← hm] at h7
          subst h7
          obtain ⟨p, hp⟩ : ∃ p : Int, p = (64 * (q : Int) + (k : Int)) / 64 := ⟨_, rfl⟩
          rw [← hp] at hv3
          have FS : Fr (at' B) w3 (w3.setCell ⟨B, 1, none⟩ (.int .i64 p)) := fr_set _ _ _ _ (Fr.refl _ _)
          have hv4 := hv3.other FS HB.out.1 nB HB.out.2.2
          have rB4 : Row (w3.setCell ⟨B, 1, none⟩ (.int .i64 p)) B #[.int .i64 ss, .int .i64 p, .int .i64 1, .bool ff] 58 := rB.setCell 1 (.int .i64 p)
          obtain ⟨k0, k1, k2, k3⟩ := row4 rB
          have z1 := rB.frozen 1
          have e3 : (64 * (q : Int) + (k : Int)).tdiv 64 = p := by rw [hp, Int.tdiv_eq_ediv_of_nonneg (by omega)]
          have e4 : (64 * (q : Int) + (k : Int)) / 64 = p := hp.symm
          have u5 : decide ((65535 : Int) < 64 * (q : Int) + (k : Int)) = false := decide_eq_false (by omega)
          obtain ⟨X, hX⟩ : ∃ X : Rc, X = ⟨ss, p, 1, ff⟩ := ⟨_, rfl⟩
          rw [← hX] at hv4
          obtain ⟨S1, hS1⟩ : ∃ S1 : Io, S1 = recS S X := ⟨_, rfl⟩
          rw [← hS1] at hv4
          have HS : Hid (S1 = recS S X ∧ X = ⟨ss, p, 1, ff⟩ ∧ m = S.re.length ∧ m ≤ 8) := ⟨hS1, hX, hm, by
            have a := hv4.bo.io
            obtain ⟨_, _, a, _⟩ := a
            have b := a.ok.re
            rw [hS1] at b
            unfold recS at b
            split at b
            · omega
            · simp at b; omega⟩
          have HV : Hid (Hv w (w3.setCell ⟨B, 1, none⟩ (.int .i64 p)) x pm bm pr br bi ji O1 Q bs S1 (.slice a7 m cap7) S.re ∧ Row (w3.setCell ⟨B, 1, none⟩ (.int .i64 p)) B #[.int .i64 ss, .int .i64 p, .int .i64 1, .bool ff] 58) := ⟨hv4, rB4⟩
          clear hv3 rB hv4 rB4 FS hp hS1 hX hm nB
          go_upto_if 84 with fail
          clear k0 k1 k2 k3 z1 e3 e4 u5
          obtain ⟨w4, hw4⟩ : ∃ w4, w4 = w3.setCell ⟨B, 1, none⟩ (.int .i64 p) := ⟨_, rfl⟩
          rw [← hw4] at HV ⊢
          clear hw4
          go_cut [7, 8] from 82 to 90 (fun a b wx => b = .int .i64 S1.lo ∧ Hv w wx x pm bm pr br bi ji O1 Q bs S1 a S1.re)
          case first =>
            by_cases hm8 : m < 8
            · have u8 : decide ((m : Int) < 8) = true := decide_eq_true (by omega)
              have fA := (Fr.refl none' w4).alloc (.cells #[.int .i64 ss, .int .i64 p, .int .i64 1, .bool ff] 58)
              have hv5 := HV.out.1.keep0 fA
              have HON : Hid (RcS (w4.alloc (.cells #[.int .i64 ss, .int .i64 p, .int .i64 1, .bool ff] 58)) (.slice (some ⟨w4.heap.size, 0, none⟩) 1 1) [⟨ss, p, 1, ff⟩]) := rcS_one ⟨ss, p, 1, ff⟩ _ (row_alloc w4 _ _)
              have HV5 : Hid (Hv w (w4.alloc (.cells #[.int .i64 ss, .int .i64 p, .int .i64 1, .bool ff] 58)) x pm bm pr br bi ji O1 Q bs S1 (.slice a7 m cap7) S.re) := hv5
              obtain ⟨k0, k1, k2, k3⟩ := row4 HV.out.2
              clear hv5 fA
              have HM : Hid (m < 8) := hm8
              go_wp2_with (first | (at_builtin; refine wpList_append_rcL rfl (.tmp 85) (.tmp 87) rfl (.slice a7 m cap7) S.re [⟨ss, p, 1, ff⟩] rfl HV5.out.rc ?_ w4.heap.size 0 1 1 rfl HON.out (Or.inr (by simp)) ?_; (have := HM.out; have := HS.out.2.2.1; simp; omega); intro g' o' cap' w' hr hf ho))
              go_meet
              have e5 : S1 = { S with re := S.re ++ [⟨ss, p, 1, ff⟩] } := by
                rw [HS.out.1, HS.out.2.1]
                unfold recS
                rw [if_neg (by have := HM.out; have := HS.out.2.2.1; omega)]
              have h6 := HV5.out.turn hf hr rfl ho
              rw [e5] at h6 ⊢
              exact ⟨rfl, h6⟩
            · have hm8' : m = 8 := by have := HS.out.2.2.2; omega
              have u8 : decide ((m : Int) < 8) = false := decide_eq_false (by omega)
              have e5 : S1 = { S with lo := wrap64 (S.lo + 1) } := by
                rw [HS.out.1]
                unfold recS
                rw [if_pos (by have := HS.out.2.2.1; omega)]
              have HE5 : Hid (S1 = { S with lo := wrap64 (S.lo + 1) }) := e5
              clear hm8 e5
              go_wp2_with fail
              go_meet
              have h6 := HV.out.1
              rw [HE5.out] at h6 ⊢
              exact ⟨rfl, h6⟩
          case rest =>
          obtain ⟨rfl, hv6⟩ := hcut
          have HV6 : Hid (Hv w wc x pm bm pr br bi ji O1 Q bs S1 u7 S1.re) := hv6
          clear HV hv6
          by_cases hk1 : k < len1
          · obtain ⟨b1, o1, f1, rfl, ck⟩ := HA.out k hk1
            replace ck := cell_keep HV6.out.fr ck (fun h => h)
            have i2 : 0 ≤ (k : Int) ∧ (k : Int) < (len1 : Int) := by omega
            have u9 : decide ((k : Int) < (len1 : Int)) = true := decide_eq_true (by omega)
            cases f1 with
            | false =>
              go_wp2_with fail
              go_roundw
              case rel => exact ⟨k + 1, S1, O1, by omega, by omega, by go_num, rfl, HV6.out⟩
              case measure => simp [intOf]; omega
            | true =>
              obtain ⟨y, l, hyl⟩ : ∃ y l, S1.re = y :: l := by
                cases hr : S1.re with
                | cons y l => exact ⟨y, l, rfl⟩
                | nil =>
                  exfalso
                  rw [HS.out.1] at hr
                  unfold recS at hr
                  split at hr
                  · rename_i h8
                    simp only at hr
                    rw [hr] at h8
                    cases h8
                  · simp at hr
              have hrc := HV6.out.rc
              rw [hyl] at hrc
              obtain ⟨g1, o2, c1, h7, hcap⟩ := hrc.some
              obtain ⟨n1, hn1⟩ : ∃ n1, n1 = l.length := ⟨_, rfl⟩
              rw [← hn1] at h7 hcap
              subst h7
              have HY : Hid (S1.re = y :: l ∧ n1 = l.length) := ⟨hyl, hn1⟩
              obtain ⟨x0, x1, x2, x3⟩ := HV6.out.bo.row
              clear hrc hyl hn1
              go_upto_region 23 with fail
              clear ck
              go_wp2_with fail
              refine (take_any _ _ _ _ HV6.out.bo.io).mono ?_
              rintro e w8 ⟨rfl, cc⟩
              clear x0 x1 x2 x3
              obtain ⟨O2, h8, u8⟩ := HV6.out.bo.stepI cc
              have hv8 := HV6.out.step h8 u8 HV6.out.ba.tk
              have e8 : tkR S1 = y := by unfold tkR; rw [HY.out.1]
              have e9 : tkB S1 = true := by unfold tkB; rw [HY.out.1]
              have e10 : (tkS S1).re = l := by show S1.re.tail = l; rw [HY.out.1]; rfl
              rw [e8, e9]
              have hrc := hv8.rc
              rw [HY.out.1] at hrc
              have hcs := hrc.cells (k := 0) (x := y) rfl
              simp only [Nat.zero_mul, Nat.add_zero] at hcs
              rw [HY.out.2] at hrc
              have htl := hrc.tail
              rw [← HY.out.2] at htl
              have fA := (Fr.refl none' w8).alloc (.cells #[.int .i64 y.s, .int .i64 y.p, .int .i64 y.k, .bool y.wr] 58)
              have q0 := cell_keep fA hcs.1 (fun h => h)
              have q1 := cell_keep fA hcs.2.1 (fun h => h)
              have q2 := cell_keep fA hcs.2.2.1 (fun h => h)
              have q3 := cell_keep fA hcs.2.2.2 (fun h => h)
              have rr := row_alloc w8 #[.int .i64 y.s, .int .i64 y.p, .int .i64 y.k, .bool y.wr] 58
              obtain ⟨s0, s1, s2, s3⟩ := row4 rr
              have HT : Hid (∀ j, (Hv w ((w8.alloc (.cells #[.int .i64 y.s, .int .i64 y.p, .int .i64 y.k, .bool y.wr] 58)).drewN j) x pm bm pr br bi ji O2 Q bs (tkS S1) (.slice (some ⟨g1, if c1 = 1 then o2 else o2 + 4, none⟩) n1 (c1 - 1)) (tkS S1).re)) := fun j => by
                rw [e10]
                exact (hv8.turn (Fr.refl _ _) htl rfl (Or.inl rfl)).keep0 (fA.trans (fr_drewN _ j))
              have heq := neq_rec
              clear hv8 h8 u8 cc hrc htl hcs e8 e9 e10 fA rr
              go_upto_region 24 with fail
              obtain ⟨w9, hw9⟩ : ∃ w9, w9 = w8.alloc (.cells #[.int .i64 y.s, .int .i64 y.p, .int .i64 y.k, .bool y.wr] 58) := ⟨_, rfl⟩
              rw [← hw9] at q0 q1 q2 q3 s0 s1 s2 s3 HT ⊢
              clear hw9
              have un : ((n1 : Int) + 1 == 0) = false := by simp; omega
              have i3 : (0 : Int) < (n1 : Int) + 1 := by omega
              by_cases hc : c1 = 1
              · subst hc
                obtain rfl : n1 = 0 := by omega
                go_wp2_with fail
                go_quiet (fail)
                clear q0 q1 q2 q3 s0 s1 s2 s3 heq
                go_wp2_with fail
                go_roundw
                case rel => exact ⟨k + 1, tkS S1, O2, by omega, by omega, by go_num, rfl, HT.out nq⟩
                case measure => simp [intOf]; omega
              · have HT2 : Hid (∀ j, (Hv w (w9.drewN j) x pm bm pr br bi ji O2 Q bs (tkS S1) (.slice (some ⟨g1, o2 + 4, none⟩) n1 (c1 - 1)) (tkS S1).re)) := fun j => by
                  have := HT.out j
                  rw [if_neg hc] at this
                  exact this
                clear HT
                go_wp2_with fail
                go_quiet (fail)
                clear q0 q1 q2 q3 s0 s1 s2 s3 heq
                go_wp2_with fail
                go_roundw
                case rel => exact ⟨k + 1, tkS S1, O2, by omega, by omega, by go_num, rfl, HT2.out nq⟩
                case measure => simp [intOf]; omega
          · have u9 : decide ((k : Int) < (len1 : Int)) = false := decide_eq_false (by omega)
            go_wp2_with fail
            go_roundw
            case rel => exact ⟨k + 1, S1, O1, by omega, by omega, by go_num, rfl, HV6.out⟩
            case measure => simp [intOf]; omega
        · obtain rfl : k = 60 := by omega
          have uk1 : decide (((60 : Nat) : Int) < (len : Int)) = true := decide_eq_true (by omega)
          go_wp2_with fail
          go_meet
          exact ⟨S, O, rfl, hv⟩
      · obtain rfl : k = len := by omega
        go_wp2_with fail
        go_meet
        exact ⟨S, O, rfl, hv⟩
  case rest =>
  clear HV
  obtain ⟨S, O, rfl, hv⟩ := hcut
  obtain ⟨a7, cap7, h7⟩ := hv.rc.form
  obtain ⟨m, hm⟩ : ∃ m, m = S.re.length := ⟨_, rfl⟩
  have hm8 : m ≤ 8 := by
    obtain ⟨_, _, a, _⟩ := hv.bo.io
    have b := a.ok.re
    omega
  rw [← hm] at h7
  subst h7
  have HV : Hid (Hv w wc x pm bm pr br bi ji O Q bs S (.slice a7 m cap7) S.re) := hv
  have HM : Hid (m = S.re.length) := hm
  clear hv hm
  obtain ⟨x0, x1, x2, x3⟩ := HV.out.bo.row
  go_wp2_with fail
  refine (records_any _ _ _ _ HV.out.bo.io).mono ?_
  rintro e w5 ⟨gl, rfl, hgl, f5, hl5⟩
  have hv5 := HV.out.keep0 f5
  rw [← HM.out] at hl5 ⊢
  clear x0 x1 x2 x3 f5 hgl
  obtain ⟨x0, x1, x2, x3⟩ := hv5.bo.row
  have HV5 : Hid (Hv w w5 x pm bm pr br bi ji O Q bs S (.slice a7 m cap7) S.re ∧ RcS w5 (.slice (some ⟨gl, 0, none⟩) m m) S.re) := ⟨hv5, hl5⟩
  clear hv5 hl5 HV
  go_wp2_with fail
  refine (iolost_any _ _ _ _ HV5.out.1.bo.io).mono ?_
  rintro e w6 ⟨rfl, f6⟩
  have HV6 : Hid (Hv w w6 x pm bm pr br bi ji O Q bs S (.slice a7 m cap7) S.re ∧ RcS w6 (.slice (some ⟨gl, 0, none⟩) m m) S.re) := ⟨HV5.out.1.keep0 f6, HV5.out.2.keep f6 (fun _ _ h => h)⟩
  clear x0 x1 x2 x3 f6 HV5
  go_wp2_with fail
  go_loopw [18] (fun i wr => ∃ j : Nat, j ≤ m ∧ i = .int .i64 j ∧ Fr none' w6 wr) (fun i _ => m - (intOf i).toNat)
  case atStart => exact ⟨0, by omega, rfl, Fr.refl _ _⟩
  case round =>
    obtain ⟨j, hj, rfl, F6⟩ := hrel
    by_cases hlt : j < m
    · obtain ⟨y, hy⟩ : ∃ y, S.re[j]? = some y := ⟨S.re[j]'(by have := HM.out; omega), by simp⟩
      have hl7 := HV6.out.2.keep F6 (fun _ _ h => h)
      have hr7 := HV6.out.1.rc.keep F6 (fun _ _ h => h)
      obtain ⟨c0, c1, c2, c3⟩ := hl7.cells hy
      rw [Nat.zero_add] at c0 c1 c2 c3
      obtain ⟨g2, o2, cap2, hv'⟩ := hr7.some' (by have := HM.out; omega)
      rw [← HM.out] at hv'
      cases hv'
      obtain ⟨b0, b1, b2, b3⟩ := hr7.cells hy
      have i1 : 0 ≤ (j : Int) ∧ (j : Int) < (m : Int) := by omega
      have heq := neq_rec
      have HF6 : Hid (Fr none' w6 wr) := F6
      clear hl7 hr7 F6
      go_wp2_with fail
      go_quiet (fail)
      clear c0 c1 c2 c3 b0 b1 b2 b3 heq
      go_wp2_with fail
      go_roundw
      case rel => exact ⟨j + 1, by omega, by go_num, HF6.out.trans (fr_drewN _ _)⟩
      case measure => simp [intOf]; omega
    · obtain rfl : j = m := by omega
      go_wp2_with fail
      go_ret
      exact ⟨rfl, (HV6.out.1.fr.trans F6).below (Nat.le_refl _) (fun _ h => h.elim)⟩

end Go.Proofs.Ythmombgogmgobaa

/- IoRecsProof -/
namespace Go.Proofs.Ythmombgogmgobaa
open Go.ChangeShapes Go.WideShapes Go.ChangeAt Go.RowKit Go.Deep

set_option maxRecDepth 100000 in
theorem iorecs_lifted (os : Os) (started : os.Started) (H : Type) (enc : TypeId × Value → H) :
    ReturnsInHanded {} Try.checked os 6 .any (Rows.iommuRecordsSpec.pre6 enc Try.prog Try.f6 Rows.iommuRecordsRow.domain false) (Rows.iommuRecordsSpec.post enc Try.prog Try.f6 false true false false) := by
  refine returnsInHanded_of_change (C := Try.checked) own_knob started (by kernel_rfl) Try.func6
    (ChangeSpec.witness6 (enc := enc) (C := Try.checked) false ⟨#[], #[.slice none 0 0, .slice none 0 0], []⟩ 8 (by kernel_rfl) (by kernel_rfl) (by kernel_rfl) (by kernel_rfl)) ?_
  intro W base args ds gs before hval0 hW hcnd _
  have hval : ∀ (j : Nat) t v, Try.f6.params[j]? = some t → args[j]? = some v → Value.okWide Try.prog W .any base t v := hval0
  have hW' := hW
  obtain ⟨p, q, hA0, hV, rfl, hfz, hnd⟩ := hW
  have hA : DataW.TrodAll enc Try.prog W 0 (fun _ => true) true Try.f6.params.toList args.toList ds p := hA0
  rw [Try.params6] at hA hval
  obtain ⟨v0, vs0, d0, ds0, p0, q0, hargs, rfl, rfl, h0, r0⟩ := trodAll_cons hA
  obtain ⟨v1, vs1, d1, ds1, p1, q1, rfl, rfl, rfl, h1, r1⟩ := trodAll_cons r0
  obtain ⟨rfl, rfl, rfl⟩ := trodAll_nil r1
  obtain rfl : args = #[v0, v1] := by cases args; simp_all
  obtain ⟨rfl, rfl⟩ := trodVars_none hV
  have k0 := h0
  have lt0 : ∀ x ∈ p0, x.block < W.heap.size := by obtain ⟨m, hm⟩ := k0; exact DataW.trod_lt m _ _ _ hm
  obtain ⟨l0, len0, cap0, rfl⟩ := okWide_slice Try.underlying59 (hval 0 59 v0 rfl rfl)
  obtain ⟨hl0, hacts0⟩ : len0 ≤ 9223372036854775807 ∧ Nums W l0 len0 := by
    obtain ⟨fuel, hf⟩ := h0
    exact nums_open (by simpa [Value.cells] using hf)
  have k1 := h1
  have lt1 : ∀ x ∈ p1, x.block < W.heap.size := by obtain ⟨m, hm⟩ := k1; exact DataW.trod_lt m _ _ _ hm
  obtain ⟨l1, len1, cap1, rfl⟩ := okWide_slice Try.underlying60 (hval 1 60 v1 rfl rfl)
  obtain ⟨hl1, hacts1⟩ : len1 ≤ 9223372036854775807 ∧ Flags W l1 len1 := by
    obtain ⟨fuel, hf⟩ := h1
    exact flags_open (by simpa [Value.cells] using hf)
  clear hA0 hval0
  refine (iorecs_any l0 len0 cap0 l1 len1 cap1 W hl0 hacts0 hl1 hacts1).mono fun e W' ⟨he, bel⟩ => ?_
  subst he
  exact ⟨_, rfl, _, _, _, [], _, [], hW', trodAll_mk1 (shut_bool Try.underlying4 _), (trodAll_cons_mk (Below.trod laid_out (by kernel_rfl) (of_decide_eq_true (by kernel_rfl)) k0 bel lt0) (trodAll_cons_mk (Below.trod laid_out (by kernel_rfl) (of_decide_eq_true (by kernel_rfl)) k1 bel lt1) trodAll_mk0)), rfl, bel.frame _, fun h => by cases h⟩

theorem iommuRecords_holds : Rows.IommuRecordsSaid :=
  OpenClaim.holds_of_wide 6 Try.f6 rfl rfl rfl rfl rfl rfl rfl ⟨rfl, rfl, rfl, rfl, rfl⟩ rfl rfl rfl rfl rfl (by kernel_rfl) Try.func6 (by kernel_rfl)
    (of_decide_eq_true (by kernel_rfl)) (by unfold Func.isWrapper; first | (rw [if_pos (by decide +kernel)]; kernel_rfl) | (rw [if_neg (by decide +kernel)]; exact ⟨rfl, rfl⟩))
    (fun os started H enc _ => iorecs_lifted os started H enc)
#print axioms iommuRecords_holds

end Go.Proofs.Ythmombgogmgobaa

