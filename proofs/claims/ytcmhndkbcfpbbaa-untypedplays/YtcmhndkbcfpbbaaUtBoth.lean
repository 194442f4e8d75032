/-
  Both pools and both memories side by side: each call by what it leaves of them. No statement is proved here.
-/
import Derived.Test.YtcmhndkbcfpbbaaUtRefA
import Derived.Test.YtcmhndkbcfpbbaaUtOpen
namespace Go.Proofs.Ytcmhndkbcfpbbaa
open Go.RowKit

structure BoAt (w0 w : World) (bp bq pm bm pr br : Nat) (L M : List Rg) (bs cs : List UInt8) : Prop where
  ex : ∃ (p : Pb) (q : Qb), p.b = bp ∧ q.b = bq ∧ IsP w p L ∧ IsQ w q M ∧ (∀ k, p.s L k → ¬ q.s k) ∧ (∀ k, p.s L k → w0.heap.size ≤ k) ∧ (∀ k, q.s k → w0.heap.size ≤ k)
  ram : IsRam w pm bm 32 bs
  ref : IsRef w pr br 32 cs
  lo : w0.heap.size ≤ bm ∧ w0.heap.size ≤ br
  fr : Fr none' w0 w

/-- Rows of types outside of T stay. -/
def KS (T : TypeId → Prop) (w w' : World) : Prop := ∀ k cs t, Row w k cs t → ¬ T t → Row w' k cs t
def tP : TypeId → Prop := fun t => t = 66 ∨ t = 39
def tQ : TypeId → Prop := fun t => t = 33 ∨ t = 39
def tR : TypeId → Prop := fun t => tP t ∨ t = 3 ∨ t = 85
def tS : TypeId → Prop := fun t => tQ t ∨ t = 75 ∨ t = 5

theorem KS.of_fr {T : TypeId → Prop} {w w' : World} (f : Fr none' w w') : KS T w w' := fun _ _ _ h _ => h.keep f (fun h => h)
theorem kept_ram {T : TypeId → Prop} {w w' : World} {p b n : Nat} {bs : List UInt8} (h : IsRam w p b n bs) (k : KS T w w') (h1 : ¬ T 69) (h2 : ¬ T 85) : IsRam w' p b n bs := ⟨k _ _ _ h.head h1, k _ _ _ h.row h2, h.len, h.most, h.apart⟩
theorem kept_ref {T : TypeId → Prop} {w w' : World} {p b n : Nat} {bs : List UInt8} (h : IsRef w p b n bs) (k : KS T w w') (h1 : ¬ T 71) (h2 : ¬ T 5) : IsRef w' p b n bs := ⟨k _ _ _ h.head h1, k _ _ _ h.row h2, h.len, h.most, h.apart⟩
theorem ks_P {w w' : World} {p : Pb} {L : List Rg} (h : IsP w p L) (f : Fr (p.s L) w w') : KS tP w w' := fun k _ _ hr ht => hr.keep f (fun hk => h.off hr (fun e => ht (Or.inl e)) (fun e => ht (Or.inr e)) k hk rfl)
theorem ks_Q {w w' : World} {q : Qb} {L : List Rg} (h : IsQ w q L) (f : Fr q.s w w') : KS tQ w w' := fun k _ _ hr ht => hr.keep f (fun hk => h.off hr (fun e => ht (Or.inl e)) (fun e => ht (Or.inr e)) k hk rfl)

section
variable {w0 w w' : World} {bp bq pm bm pr br : Nat} {L M : List Rg} {bs cs : List UInt8}
theorem BoAt.keep0 (h : BoAt w0 w bp bq pm bm pr br L M bs cs) (f : Fr none' w w') : BoAt w0 w' bp bq pm bm pr br L M bs cs := by
  obtain ⟨p, q, a1, a2, a3, a4, a5⟩ := h.ex
  exact ⟨⟨p, q, a1, a2, a3.keep0 f, a4.keep0 f, a5⟩, h.ram.keep f (fun h => h) (fun h => h), h.ref.keep f (fun h => h) (fun h => h), h.lo, h.fr.trans f⟩
theorem BoAt.good (h : BoAt w0 w bp bq pm bm pr br L M bs cs) : GoodL L := by
  obtain ⟨p, q, a1, a2, a3, _⟩ := h.ex
  exact a3.good
/-- The program's pool turned. -/
theorem bo_chgP {p : Pb} {q : Qb} {L' : List Rg} (h : BoAt w0 w p.b q.b pm bm pr br L M bs cs) (hp : IsP w p L) (hq : IsQ w q M) (hd : ∀ k, p.s L k → ¬ q.s k) (h1 : ∀ k, p.s L k → w0.heap.size ≤ k) (h2 : ∀ k, q.s k → w0.heap.size ≤ k) (c : Chg w p L w' L') : BoAt w0 w' p.b q.b pm bm pr br L' M bs cs ∧ KS tP w w' := by
  obtain ⟨p', e, a1, a2, a3⟩ := c
  have K := ks_P hp a2
  have hs := h.fr.size
  refine ⟨⟨⟨p', q, e, rfl, a1, hq.keep a2 (fun k hk hs => hd k hs hk), fun k hk hq' => ?_, fun k hk => ?_, h2⟩, kept_ram h.ram K (by unfold tP; decide) (by unfold tP; decide), kept_ref h.ref K (by unfold tP; decide) (by unfold tP; decide), h.lo, fr_new h.fr a2 h1⟩, K⟩
  · rcases a3 k hk with h' | h'
    · exact hd k h' hq'
    · have := hq.lt k hq'; omega
  · rcases a3 k hk with h' | h'
    · exact h1 k h'
    · omega
/-- The document's pool turned. -/
theorem bo_chgQ {p : Pb} {q : Qb} {M' : List Rg} (h : BoAt w0 w p.b q.b pm bm pr br L M bs cs) (hp : IsP w p L) (hq : IsQ w q M) (hd : ∀ k, p.s L k → ¬ q.s k) (h1 : ∀ k, p.s L k → w0.heap.size ≤ k) (h2 : ∀ k, q.s k → w0.heap.size ≤ k) (c : ChgQ w q w' M') : BoAt w0 w' p.b q.b pm bm pr br L M' bs cs ∧ KS tQ w w' := by
  obtain ⟨q', e, a1, a2, a3⟩ := c
  have K := ks_Q hq a2
  have hs := h.fr.size
  refine ⟨⟨⟨p, q', rfl, e, hp.keep a2 (fun k hk hs => hd k hk hs), a1, fun k hk hq' => ?_, h1, fun k hk => ?_⟩, kept_ram h.ram K (by unfold tQ; decide) (by unfold tQ; decide), kept_ref h.ref K (by unfold tQ; decide) (by unfold tQ; decide), h.lo, fr_new h.fr a2 h2⟩, K⟩
  · rcases a3 k hq' with h' | h'
    · exact hd k hk h'
    · have := hp.lt k hk; omega
  · rcases a3 k hk with h' | h'
    · exact h2 k h'
    · omega

theorem BoAt.add (h : BoAt w0 w bp bq pm bm pr br L M bs cs) (x : Rg) (hx : I64 x.f) : Calls Try.prog 20 #[.pointer (some ⟨bp, 0, none⟩), rgV x] w fun e w' => e = .returned (.int .i64 (addE L x)) ∧ BoAt w0 w' bp bq pm bm pr br (addS L x) M bs cs ∧ KS tP w w' := by
  obtain ⟨p, q, rfl, rfl, a1, a2, a3, a4, a5⟩ := id h.ex
  exact (add_any w p L a1 x hx).mono fun _ _ ⟨e1, c⟩ => ⟨e1, bo_chgP h a1 a2 a3 a4 a5 c⟩
theorem BoAt.drop (h : BoAt w0 w bp bq pm bm pr br L M bs cs) (k : Int) (hk : I64 k) : Calls Try.prog 27 #[.pointer (some ⟨bp, 0, none⟩), .int .i64 k] w fun e w' => e = .returned (.int .i64 (drE L k)) ∧ BoAt w0 w' bp bq pm bm pr br (del L k) M bs cs ∧ KS tP w w' := by
  obtain ⟨p, q, rfl, rfl, a1, a2, a3, a4, a5⟩ := id h.ex
  exact (drop_any w p L a1 k hk).mono fun _ _ ⟨e1, c⟩ => ⟨e1, bo_chgP h a1 a2 a3 a4 a5 c⟩
theorem BoAt.get (h : BoAt w0 w bp bq pm bm pr br L M bs cs) (k : Int) (hk : I64 k) : Calls Try.prog 22 #[.pointer (some ⟨bp, 0, none⟩), .int .i64 k] w fun e w' => e = .returned (.tuple #[rgV (getC L k), .int .i64 (getE L k)]) ∧ Fr none' w w' := by
  obtain ⟨p, q, rfl, rfl, a1, _⟩ := id h.ex
  exact get_any w p L a1 k hk
theorem BoAt.room (h : BoAt w0 w bp bq pm bm pr br L M bs cs) (f k n c : Int) (hk : I64 f) : Calls Try.prog 25 #[.pointer (some ⟨bp, 0, none⟩), .int .i64 f, .int .i64 k, .int .i64 n, .int .i64 c] w fun e w' => e = .returned (.tuple #[.int .i64 (rooV L f k n c), .int .i64 (rooE L f k n c)]) ∧ Fr none' w w' := by
  obtain ⟨p, q, rfl, rfl, a1, _⟩ := id h.ex
  exact room_any w p L a1 f k n c hk
theorem BoAt.carve (h : BoAt w0 w bp bq pm bm pr br L M bs cs) (f k n c : Int) (hk : I64 f) : Calls Try.prog 21 #[.pointer (some ⟨bp, 0, none⟩), .int .i64 f, .int .i64 k, .int .i64 n, .int .i64 c] w fun e w' => e = .returned (.tuple #[.int .i64 (rooV L f k n c), .int .i64 (rooE L f k n c)]) ∧ BoAt w0 w' bp bq pm bm pr br (carS L f k n c) M bs cs ∧ KS tP w w' := by
  obtain ⟨p, q, rfl, rfl, a1, a2, a3, a4, a5⟩ := id h.ex
  exact (carve_any w p L a1 f k n c hk).mono fun _ _ ⟨e1, c⟩ => ⟨e1, bo_chgP h a1 a2 a3 a4 a5 c⟩
theorem BoAt.store (h : BoAt w0 w bp bq pm bm pr br L M bs cs) (a : Int) (ha : a ≤ 9223372036854775807) (v : Nat) (hv : v < 4294967296) : Calls Try.prog 23 #[.pointer (some ⟨pm, 0, none⟩), .int .i64 a, .int .i64 1, .int .u32 (v : Int)] w fun e w' => e = .returned (.int .i64 (errOf a 1 32)) ∧ BoAt w0 w' bp bq pm bm pr br L M (storeB bs a 1 32 v) cs ∧ KS (fun t => t = 85) w w' := by
  obtain ⟨p, q, rfl, rfl, a1, a2, a3, a4, a5⟩ := id h.ex
  refine (store_any w pm bm 32 bs a 1 v h.ram ha hv).mono ?_
  rintro e w' ⟨rfl, f, r⟩
  have K : KS (fun t => t = 85) w w' := fun k _ _ hr ht => hr.keep f (fun hk => by obtain rfl : k = bm := hk; exact row_ne hr h.ram.row ht rfl)
  exact ⟨rfl, ⟨⟨p, q, rfl, rfl, a1.keep f (fun k hk e => a1.off h.ram.row (by decide) (by decide) k hk e), a2.keep f (fun k hk e => a2.off h.ram.row (by decide) (by decide) k hk e), a3, a4, a5⟩, r, kept_ref h.ref K (by decide) (by decide), h.lo, fr_new h.fr f (fun k hk => by obtain rfl : k = bm := hk; exact h.lo.1)⟩, K⟩
theorem BoAt.reset (h : BoAt w0 w bp bq pm bm pr br L M bs cs) (k u : Int) (hk : I64 k) (hu : I64 u) (ub : Nat) (ru : Row w ub #[.int .i64 u] 3) (lu : w0.heap.size ≤ ub) : Calls Try.prog 24 #[.pointer (some ⟨bp, 0, none⟩), .pointer (some ⟨pm, 0, none⟩), .int .i64 k, .pointer (some ⟨ub, 0, none⟩)] w fun e w' => e = .returned (.int .i64 (rstE L k u)) ∧ BoAt w0 w' bp bq pm bm pr br (rstS L k u) M (rstB L k u 32 bs) cs ∧ Row w' ub #[.int .i64 (rstU L k u)] 3 ∧ KS tR w w' := by
  obtain ⟨p, q, rfl, rfl, a1, a2, a3, a4, a5⟩ := id h.ex
  refine (reset_any w p L a1 k hk ub pm bm 32 bs u hu h.ram ru).mono ?_
  rintro e w' ⟨rfl, b1, b2, b3, f⟩
  have K : KS tR w w' := fun z _ _ hr ht => hr.keep f (by
    rintro (hz | rfl | rfl)
    · exact a1.off hr (fun e => ht (Or.inl (Or.inl e))) (fun e => ht (Or.inl (Or.inr e))) z hz rfl
    · exact row_ne hr ru (fun e => ht (Or.inr (Or.inl e))) rfl
    · exact row_ne hr h.ram.row (fun e => ht (Or.inr (Or.inr e))) rfl)
  refine ⟨rfl, ⟨⟨p, q, rfl, rfl, b1, a2.keep f ?_, fun z hz => a3 z (s_rst hz), fun z hz => a4 z (s_rst hz), a5⟩, b3, kept_ref h.ref K (by unfold tR tP; decide) (by unfold tR tP; decide), h.lo, fr_new h.fr f ?_⟩, b2, K⟩
  · rintro z hz (hp | rfl | rfl)
    · exact a3 z hp hz
    · exact a2.off ru (by decide) (by decide) z hz rfl
    · exact a2.off h.ram.row (by decide) (by decide) z hz rfl
  · rintro z (hp | rfl | rfl)
    · exact a4 z hp
    · exact lu
    · exact h.lo.1

theorem BoAt.radd (h : BoAt w0 w bp bq pm bm pr br L M bs cs) (x : Rg) : Calls Try.prog 26 #[.pointer (some ⟨bq, 0, none⟩), rgV x] w fun e w' => e = .returned (.int .i64 (addE M x)) ∧ BoAt w0 w' bp bq pm bm pr br L (addS M x) bs cs ∧ KS tQ w w' := by
  obtain ⟨p, q, rfl, rfl, a1, a2, a3, a4, a5⟩ := id h.ex
  exact (radd_any w q M a2 x).mono fun _ _ ⟨e1, c⟩ => ⟨e1, bo_chgQ h a1 a2 a3 a4 a5 c⟩
theorem BoAt.rdrop (h : BoAt w0 w bp bq pm bm pr br L M bs cs) (k : Int) : Calls Try.prog 28 #[.pointer (some ⟨bq, 0, none⟩), .int .i64 k] w fun e w' => e = .returned (.int .i64 (drE M k)) ∧ BoAt w0 w' bp bq pm bm pr br L (del M k) bs cs ∧ KS tQ w w' := by
  obtain ⟨p, q, rfl, rfl, a1, a2, a3, a4, a5⟩ := id h.ex
  exact (rdrop_any w q M a2 k).mono fun _ _ ⟨e1, c⟩ => ⟨e1, bo_chgQ h a1 a2 a3 a4 a5 c⟩
theorem BoAt.rget (h : BoAt w0 w bp bq pm bm pr br L M bs cs) (k : Int) : Calls Try.prog 29 #[.pointer (some ⟨bq, 0, none⟩), .int .i64 k] w fun e w' => e = .returned (.tuple #[rgV (getC M k), .int .i64 (getE M k)]) ∧ Fr none' w w' := by
  obtain ⟨p, q, rfl, rfl, a1, a2, _⟩ := id h.ex
  exact rget_any w q M a2 k
theorem BoAt.rroom (h : BoAt w0 w bp bq pm bm pr br L M bs cs) (f k n c : Int) : Calls Try.prog 32 #[.pointer (some ⟨bq, 0, none⟩), .int .i64 f, .int .i64 k, .int .i64 n, .int .i64 c] w fun e w' => e = .returned (.tuple #[.int .i64 (rooV M f k n c), .int .i64 (rooE M f k n c)]) ∧ Fr none' w w' := by
  obtain ⟨p, q, rfl, rfl, a1, a2, _⟩ := id h.ex
  exact rroom_any w q M a2 f k n c
theorem BoAt.rcarve (h : BoAt w0 w bp bq pm bm pr br L M bs cs) (f k n c : Int) : Calls Try.prog 30 #[.pointer (some ⟨bq, 0, none⟩), .int .i64 f, .int .i64 k, .int .i64 n, .int .i64 c] w fun e w' => e = .returned (.tuple #[.int .i64 (rooV M f k n c), .int .i64 (rooE M f k n c)]) ∧ BoAt w0 w' bp bq pm bm pr br L (carS M f k n c) bs cs ∧ KS tQ w w' := by
  obtain ⟨p, q, rfl, rfl, a1, a2, a3, a4, a5⟩ := id h.ex
  exact (rcarve_any w q M a2 f k n c).mono fun _ _ ⟨e1, c⟩ => ⟨e1, bo_chgQ h a1 a2 a3 a4 a5 c⟩
theorem BoAt.rstore (h : BoAt w0 w bp bq pm bm pr br L M bs cs) (a : Int) (v : Nat) (hv : v < 4294967296) : Calls Try.prog 33 #[.pointer (some ⟨pr, 0, none⟩), .int .i64 a, .int .i64 1, .int .u32 (v : Int)] w fun e w' => e = .returned (.int .i64 (errOf a 1 32)) ∧ BoAt w0 w' bp bq pm bm pr br L M bs (storeB cs a 1 32 v) ∧ KS (fun t => t = 5) w w' := by
  obtain ⟨p, q, rfl, rfl, a1, a2, a3, a4, a5⟩ := id h.ex
  refine (rstore_any w pr br 32 cs a 1 v h.ref hv).mono ?_
  rintro e w' ⟨rfl, f, r⟩
  have K : KS (fun t => t = 5) w w' := fun k _ _ hr ht => hr.keep f (fun hk => by obtain rfl : k = br := hk; exact row_ne hr h.ref.row ht rfl)
  exact ⟨rfl, ⟨⟨p, q, rfl, rfl, a1.keep f (fun k hk e => a1.off h.ref.row (by decide) (by decide) k hk e), a2.keep f (fun k hk e => a2.off h.ref.row (by decide) (by decide) k hk e), a3, a4, a5⟩, kept_ram h.ram K (by decide) (by decide), r, h.lo, fr_new h.fr f (fun k hk => by obtain rfl : k = br := hk; exact h.lo.2)⟩, K⟩
theorem BoAt.rreset (h : BoAt w0 w bp bq pm bm pr br L M bs cs) (k u : Int) (hu : I64 u) (ub : Nat) (ru : Row w ub #[.int .i64 (max 0 u)] 75) (lu : w0.heap.size ≤ ub) : Calls Try.prog 31 #[.pointer (some ⟨bq, 0, none⟩), .pointer (some ⟨pr, 0, none⟩), .int .i64 k, .pointer (some ⟨ub, 0, none⟩)] w fun e w' => e = .returned (.int .i64 (rstE M k u)) ∧ BoAt w0 w' bp bq pm bm pr br L (rstS M k u) bs (rstB M k u 32 cs) ∧ Row w' ub #[.int .i64 (max 0 (rstU M k u))] 75 ∧ KS tS w w' := by
  obtain ⟨p, q, rfl, rfl, a1, a2, a3, a4, a5⟩ := id h.ex
  refine (rreset_any w q M a2 k ub pr br 32 cs u hu.2 h.ref ru).mono ?_
  rintro e w' ⟨rfl, b1, b2, b3, f⟩
  have K : KS tS w w' := fun z _ _ hr ht => hr.keep f (by
    rintro (hz | rfl | rfl)
    · exact a2.off hr (fun e => ht (Or.inl (Or.inl e))) (fun e => ht (Or.inl (Or.inr e))) z hz rfl
    · exact row_ne hr ru (fun e => ht (Or.inr (Or.inl e))) rfl
    · exact row_ne hr h.ref.row (fun e => ht (Or.inr (Or.inr e))) rfl)
  refine ⟨rfl, ⟨⟨p, q, rfl, rfl, a1.keep f ?_, b1, a3, a4, a5⟩, kept_ram h.ram K (by unfold tS tQ; decide) (by unfold tS tQ; decide), b3, h.lo, fr_new h.fr f ?_⟩, b2, K⟩
  · rintro z hz (hp | rfl | rfl)
    · exact a3 z hz hp
    · exact a1.off ru (by decide) (by decide) z hz rfl
    · exact a1.off h.ref.row (by decide) (by decide) z hz rfl
  · rintro z (hp | rfl | rfl)
    · exact a5 z hp
    · exact lu
    · exact h.lo.2
end

end Go.Proofs.Ytcmhndkbcfpbbaa
