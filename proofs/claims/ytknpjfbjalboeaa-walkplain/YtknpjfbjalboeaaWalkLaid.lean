/-
  Entries that came in ('Put's), where they lie and what they hold, and the contract of 'laid' over the translation: both memories hold the same, which is told by a plain function. No statement is proved here.
-/
import Derived.Test.YtknpjfbjalboeaaWalkNest
import Derived.Test.YtknpjfbjalboeaaWalkRefN
import Derived.Test.YtknpjfbjalboeaaRefFrame
import Derived.Laws.BitsAllLaws
import Derived.Test.YtknpjfbjalboeaaTwin
namespace Go.Proofs.Ytknpjfbjalboeaa
open Go.RowKit

/-- An entry that is laid: table, index, the entry's four parts, or a raw half word. -/
structure Pt where (t i : Int) (v l : Bool) (r f : Int) (raw : Bool) (x : Nat)

/-- One of them, from block b's place o on. -/
structure PutIs (w : World) (b o : Nat) (q : Pt) : Prop where
  c0 : w.cell? ⟨b, o, none⟩ = some (.int .i64 q.t)
  c1 : w.cell? ⟨b, o + 1, none⟩ = some (.int .i64 q.i)
  c2 : w.cell? ⟨b, o + 2, none⟩ = some (.bool q.v)
  c3 : w.cell? ⟨b, o + 3, none⟩ = some (.bool q.l)
  c4 : w.cell? ⟨b, o + 4, none⟩ = some (.int .i64 q.r)
  c5 : w.cell? ⟨b, o + 5, none⟩ = some (.int .i64 q.f)
  c6 : w.cell? ⟨b, o + 6, none⟩ = some (.bool q.raw)
  c7 : w.cell? ⟨b, o + 7, none⟩ = some (.int .u16 (q.x : Int))
  word : q.x < 65536

theorem PutIs.cells {w : World} {b o : Nat} {q : Pt} (h : PutIs w b o q) : w.cell? ⟨b, o, none⟩ = some (.int .i64 q.t) ∧ w.cell? ⟨b, o + 1, none⟩ = some (.int .i64 q.i) ∧ w.cell? ⟨b, o + 2, none⟩ = some (.bool q.v) ∧ w.cell? ⟨b, o + 3, none⟩ = some (.bool q.l) ∧
    w.cell? ⟨b, o + 4, none⟩ = some (.int .i64 q.r) ∧ w.cell? ⟨b, o + 5, none⟩ = some (.int .i64 q.f) ∧ w.cell? ⟨b, o + 6, none⟩ = some (.bool q.raw) ∧ w.cell? ⟨b, o + 7, none⟩ = some (.int .u16 (q.x : Int)) :=
  ⟨h.c0, h.c1, h.c2, h.c3, h.c4, h.c5, h.c6, h.c7⟩

theorem PutIs.keep {S : Nat → Prop} {w w' : World} {b o : Nat} {q : Pt} (h : PutIs w b o q) (k : Fr S w w') (hs : ¬ S b) : PutIs w' b o q :=
  ⟨cell_keep k h.c0 hs, cell_keep k h.c1 hs, cell_keep k h.c2 hs, cell_keep k h.c3 hs, cell_keep k h.c4 hs, cell_keep k h.c5 hs, cell_keep k h.c6 hs, cell_keep k h.c7 hs, h.word⟩

/-- A slice of them. -/
def Puts (w : World) (a0 : Option Addr) (len : Nat) (P : Nat → Pt) : Prop :=
  ∀ k, k < len → ∃ b o, a0 = some ⟨b, o, none⟩ ∧ PutIs w b (o + k * 8) (P k)

theorem Puts.keep {w w' : World} {a0 : Option Addr} {len : Nat} {P : Nat → Pt} (h : Puts w a0 len P) (f : Fr none' w w') : Puts w' a0 len P := fun k hk => by
  obtain ⟨b, o, e, q⟩ := h k hk
  exact ⟨b, o, e, q.keep f (fun h => h)⟩

def putP (bs : List UInt8) (q : Pt) : List UInt8 :=
  if q.raw = true then (if 0 ≤ q.t ∧ q.t < 16 ∧ 0 ≤ q.i ∧ q.i < 32 then storeB bs (64 * q.t + 2 * q.i) 2 16 q.x else bs) else putB bs q.t q.i 16 q.v q.l q.r q.f

/-- What a memory of sixteen frames holds behind the first n. -/
def laidB (P : Nat → Pt) : Nat → List UInt8
  | 0 => List.replicate (64 * 16) 0
  | n + 1 => putP (laidB P n) (P n)

theorem laidB_raw {P : Nat → Pt} {k : Nat} (hr : (P k).raw = true) : laidB P (k + 1) = if 0 ≤ (P k).t ∧ (P k).t < 16 ∧ 0 ≤ (P k).i ∧ (P k).i < 32 then storeB (laidB P k) (64 * (P k).t + 2 * (P k).i) 2 16 (P k).x else laidB P k := by
  show putP (laidB P k) (P k) = _
  unfold putP
  rw [if_pos hr]

theorem Twin.stepR {w w1 w2 : World} {B pm bm pr br nf : Nat} {bs bs' : List UInt8} (h : Twin w B pm bm pr br nf bs) (f1 : Fr (at' br) w w1) (r1 : IsRef w1 pr br nf bs') (f2 : Fr (at' bm) w1 w2) (r2 : IsRam w2 pm bm nf bs') :
    Twin w2 B pm bm pr br nf bs' ∧ Fr (two bm br) w w2 :=
  ⟨⟨r2, r1.keep f2 h.d2 (fun e => h.d3 e.symm), h.d1, h.d2, h.d3, h.lo⟩, (f1.mono (fun _ _ e => Or.inr e)).trans (f2.mono (fun _ _ e => Or.inl e))⟩

theorem wrap_small {n : Int} (h0 : -9223372036854775808 ≤ n) (h1 : n ≤ 9223372036854775807) : IntKind.i64.wrap n = n := by
  simp only [IntKind.wrap, IntKind.bits, IntKind.signed]
  simp
  omega

set_option maxHeartbeats 8000000 in
set_option maxRecDepth 100000 in
theorem laid_any (w : World) (a0 : Option Addr) (len cap : Nat) (P : Nat → Pt) (hl : len ≤ 9223372036854775807) (hP : Puts w a0 len P) :
    Calls Try.prog 6 #[.slice a0 len cap] w fun e w' => ∃ pm bm pr br, e = .returned (.tuple #[.pointer (some ⟨pm, 0, none⟩), .pointer (some ⟨pr, 0, none⟩)]) ∧ Fr none' w w' ∧ Twin w' w.heap.size pm bm pr br 16 (laidB P (min len 200)) := by
  go_enter Try.func6, Try.ntmps6
  go_wp2_with fail
  refine (new_any _ _ ⟨by decide, by decide⟩).mono ?_
  rintro e w1 ⟨rfl, f1, r1⟩
  go_wp2_with fail
  refine (rnew_any _ _ ⟨by decide, by decide⟩).mono ?_
  rintro e w2 ⟨rfl, f2, r2⟩
  have TW0 : Twin w2 w.heap.size (w.heap.size + 1) w.heap.size (w1.heap.size + 1) w1.heap.size 16 (List.replicate (64 * 16) 0) := twin_new (Nat.le_refl _) r1 f2 r2
  have f0 := f1.trans f2
  clear f1 f2 r1 r2
  obtain ⟨pm, bm, pr, br, TW1, hpm, hpr⟩ : ∃ pm bm pr br, Twin w2 w.heap.size pm bm pr br 16 (List.replicate (64 * 16) 0) ∧ w.heap.size + 1 = pm ∧ w1.heap.size + 1 = pr := ⟨_, _, _, _, TW0, rfl, rfl⟩
  clear TW0
  have hlo := TW1.lo
  rw [hpm, hpr]
  clear hpm hpr
  go_wp2_with fail
  go_loopw [8] (fun i wr => ∃ k : Nat, k ≤ len ∧ k ≤ 200 ∧ i = .int .i64 k ∧ Fr none' w wr ∧ Twin wr w.heap.size pm bm pr br 16 (laidB P k)) (fun i _ => 200 - (intOf i).toNat)
  case atStart => exact ⟨0, by omega, by omega, rfl, f0, TW1⟩
  case round =>
    clear f0 TW1
    obtain ⟨k, hk, hk2, rfl, fk, TW⟩ := hrel
    by_cases hlt : k < len
    · by_cases hlt2 : k < 200
      · obtain ⟨b, o, rfl, pk⟩ := hP k hlt
        have hbl := cell_lt pk.c0
        replace hbl : b < w.heap.size := hbl
        replace pk := pk.keep fk (fun h => h)
        have i1 : 0 ≤ (k : Int) ∧ (k : Int) < (len : Int) := by omega
        cases hr : (P k).raw with
        | false =>
          obtain ⟨c0, c1, c2, c3, c4, c5, c6, c7⟩ := pk.cells
          rw [hr] at c6
          go_wp2_with fail
          clear c0 c1 c2 c3 c4 c5 c6 c7
          have dr := TW.ref.drew
          go_region_held3 (fun w' => w'.cell? ⟨b, o + k * 8, none⟩ = some (.int .i64 (P k).t) ∧ w'.cell? ⟨b, o + k * 8 + 1, none⟩ = some (.int .i64 (P k).i) ∧ w'.cell? ⟨b, o + k * 8 + 2, none⟩ = some (.bool (P k).v) ∧ w'.cell? ⟨b, o + k * 8 + 3, none⟩ = some (.bool (P k).l) ∧ w'.cell? ⟨b, o + k * 8 + 4, none⟩ = some (.int .i64 (P k).r) ∧ w'.cell? ⟨b, o + k * 8 + 5, none⟩ = some (.int .i64 (P k).f)) (first | with_reducible exact ⟨pk.c0, pk.c1, pk.c2, pk.c3, pk.c4, pk.c5⟩ | exact ⟨pk.c0, pk.c1, pk.c2, pk.c3, pk.c4, pk.c5⟩) (first | (go_at_call 9; refine (rput_any _ _ _ _ _ _ _ _ _ _ _ dr).mono ?_; rintro e w1 ⟨rfl, f1, q1⟩; replace f1 := f1.undrew; replace pk := pk.keep f1 (show _ ≠ _ by omega)))
          clear dr
          have q0 := TW.ram.keep f1 TW.d1 TW.d3
          go_wp2_with fail
          have dm := q0.drew
          go_region_held3 (fun w' => w'.cell? ⟨b, o + k * 8, none⟩ = some (.int .i64 (P k).t) ∧ w'.cell? ⟨b, o + k * 8 + 1, none⟩ = some (.int .i64 (P k).i) ∧ w'.cell? ⟨b, o + k * 8 + 2, none⟩ = some (.bool (P k).v) ∧ w'.cell? ⟨b, o + k * 8 + 3, none⟩ = some (.bool (P k).l) ∧ w'.cell? ⟨b, o + k * 8 + 4, none⟩ = some (.int .i64 (P k).r) ∧ w'.cell? ⟨b, o + k * 8 + 5, none⟩ = some (.int .i64 (P k).f)) (first | with_reducible exact ⟨pk.c0, pk.c1, pk.c2, pk.c3, pk.c4, pk.c5⟩ | exact ⟨pk.c0, pk.c1, pk.c2, pk.c3, pk.c4, pk.c5⟩) (first | (go_at_call 8; refine (put_any _ _ _ _ _ _ _ _ _ _ _ dm).mono ?_; rintro e w2 ⟨rfl, f2, q2⟩; replace f2 := f2.undrew; replace pk := pk.keep f2 (show _ ≠ _ by omega)))
          clear dm
          obtain ⟨TW2, ff⟩ := TW.stepR f1 q1 f2 q2
          replace fk := fk.own ff TW.lo.2.1 TW.lo.2.2.2
          have eb : putB (laidB P k) (P k).t (P k).i 16 (P k).v (P k).l (P k).r (P k).f = laidB P (k + 1) := by simp [laidB, putP, hr]
          rw [eb] at TW2
          clear f1 f2 q0 q1 q2 ff eb TW
          go_wp2_with fail
          go_roundw
          case rel => exact ⟨k + 1, by omega, by omega, by go_num, fk, TW2⟩
          case measure => simp [intOf]; omega
        | true =>
          by_cases h1 : 0 ≤ (P k).t
          · by_cases h2 : (P k).t < 16
            · by_cases h3 : 0 ≤ (P k).i
              · by_cases h4 : (P k).i < 32
                · have q1 : decide (0 ≤ (P k).t) = true := decide_eq_true h1
                  have q2 : decide ((P k).t < 16) = true := decide_eq_true h2
                  have q3 : decide (0 ≤ (P k).i) = true := decide_eq_true h3
                  have q4 : decide ((P k).i < 32) = true := decide_eq_true h4
                  obtain ⟨c0, c1, c2, c3, c4, c5, c6, c7⟩ := pk.cells
                  rw [hr] at c6
                  have hx := pk.word
                  have e1 : IntKind.i64.wrap (64 * (P k).t) = 64 * (P k).t := wrap_small (by omega) (by omega)
                  have e2 : IntKind.i64.wrap (2 * (P k).i) = 2 * (P k).i := wrap_small (by omega) (by omega)
                  have e3 : IntKind.i64.wrap (64 * (P k).t + 2 * (P k).i) = 64 * (P k).t + 2 * (P k).i := wrap_small (by omega) (by omega)
                  have e4 : IntKind.u32.wrap ((P k).x : Int) = ((P k).x : Int) := by rw [IntKind.wrap_u32']; omega
                  go_wp2_with fail
                  clear c0 c1 c2 c3 c4 c5 c6 c7
                  have dr := TW.ref.drew
                  go_region_held3 (fun w' => w'.cell? ⟨b, o + k * 8, none⟩ = some (.int .i64 (P k).t) ∧ w'.cell? ⟨b, o + k * 8 + 1, none⟩ = some (.int .i64 (P k).i) ∧ w'.cell? ⟨b, o + k * 8 + 7, none⟩ = some (.int .u16 ((P k).x : Int))) (first | with_reducible exact ⟨pk.c0, pk.c1, pk.c7⟩ | exact ⟨pk.c0, pk.c1, pk.c7⟩) (first | (go_at_call 20; refine (rstore_any _ _ _ _ _ _ _ (P k).x dr (by omega)).mono ?_; rintro e w1 ⟨rfl, f1, q1⟩; replace f1 := f1.undrew; replace pk := pk.keep f1 (show _ ≠ _ by omega)))
                  clear dr
                  have q0 := TW.ram.keep f1 TW.d1 TW.d3
                  go_wp2_with fail
                  have dm := q0.drew
                  go_region_held3 (fun w' => w'.cell? ⟨b, o + k * 8, none⟩ = some (.int .i64 (P k).t) ∧ w'.cell? ⟨b, o + k * 8 + 1, none⟩ = some (.int .i64 (P k).i) ∧ w'.cell? ⟨b, o + k * 8 + 7, none⟩ = some (.int .u16 ((P k).x : Int))) (first | with_reducible exact ⟨pk.c0, pk.c1, pk.c7⟩ | exact ⟨pk.c0, pk.c1, pk.c7⟩) (first | (go_at_call 21; refine (store_any _ _ _ _ _ (64 * (P k).t + 2 * (P k).i) _ (P k).x dm (by omega) (by omega)).mono ?_; rintro e w2 ⟨rfl, f2, q2⟩; replace f2 := f2.undrew; replace pk := pk.keep f2 (show _ ≠ _ by omega)))
                  clear dm
                  obtain ⟨TW2, ff⟩ := TW.stepR f1 q1 f2 q2
                  replace fk := fk.own ff TW.lo.2.1 TW.lo.2.2.2
                  have eb : storeB (laidB P k) (64 * (P k).t + 2 * (P k).i) 2 16 (P k).x = laidB P (k + 1) := by rw [laidB_raw hr]; rw [if_pos (by omega)]
                  rw [eb] at TW2
                  clear f1 f2 q0 q1 q2 ff eb TW
                  go_wp2_with fail
                  go_roundw
                  case rel => exact ⟨k + 1, by omega, by omega, by go_num, fk, TW2⟩
                  case measure => simp [intOf]; omega
                · have q1 : decide (0 ≤ (P k).t) = true := decide_eq_true h1
                  have q2 : decide ((P k).t < 16) = true := decide_eq_true h2
                  have q3 : decide (0 ≤ (P k).i) = true := decide_eq_true h3
                  have q4 : decide ((P k).i < 32) = false := decide_eq_false h4
                  have eb : laidB P k = laidB P (k + 1) := by rw [laidB_raw hr]; rw [if_neg (by omega)]
                  rw [eb] at TW
                  clear eb
                  obtain ⟨c0, c1, c2, c3, c4, c5, c6, c7⟩ := pk.cells
                  rw [hr] at c6
                  go_wp2_with fail
                  go_roundw
                  case rel => exact ⟨k + 1, by omega, by omega, by go_num, fk, TW⟩
                  case measure => simp [intOf]; omega
              · have q1 : decide (0 ≤ (P k).t) = true := decide_eq_true h1
                have q2 : decide ((P k).t < 16) = true := decide_eq_true h2
                have q3 : decide (0 ≤ (P k).i) = false := decide_eq_false h3
                have eb : laidB P k = laidB P (k + 1) := by rw [laidB_raw hr]; rw [if_neg (by omega)]
                rw [eb] at TW
                clear eb
                obtain ⟨c0, c1, c2, c3, c4, c5, c6, c7⟩ := pk.cells
                rw [hr] at c6
                go_wp2_with fail
                go_roundw
                case rel => exact ⟨k + 1, by omega, by omega, by go_num, fk, TW⟩
                case measure => simp [intOf]; omega
            · have q1 : decide (0 ≤ (P k).t) = true := decide_eq_true h1
              have q2 : decide ((P k).t < 16) = false := decide_eq_false h2
              have eb : laidB P k = laidB P (k + 1) := by rw [laidB_raw hr]; rw [if_neg (by omega)]
              rw [eb] at TW
              clear eb
              obtain ⟨c0, c1, c2, c3, c4, c5, c6, c7⟩ := pk.cells
              rw [hr] at c6
              go_wp2_with fail
              go_roundw
              case rel => exact ⟨k + 1, by omega, by omega, by go_num, fk, TW⟩
              case measure => simp [intOf]; omega
          · have q1 : decide (0 ≤ (P k).t) = false := decide_eq_false h1
            have eb : laidB P k = laidB P (k + 1) := by rw [laidB_raw hr]; rw [if_neg (by omega)]
            rw [eb] at TW
            clear eb
            obtain ⟨c0, c1, c2, c3, c4, c5, c6, c7⟩ := pk.cells
            rw [hr] at c6
            go_wp2_with fail
            go_roundw
            case rel => exact ⟨k + 1, by omega, by omega, by go_num, fk, TW⟩
            case measure => simp [intOf]; omega
      · obtain rfl : k = 200 := by omega
        go_wp2_with fail
        go_ret2
        exact ⟨pm, bm, pr, br, rfl, fk, by rw [Nat.min_eq_right (by omega)]; exact TW⟩
    · obtain rfl : k = len := by omega
      go_wp2_with fail
      go_ret2
      exact ⟨pm, bm, pr, br, rfl, fk, by rw [Nat.min_eq_left (by omega)]; exact TW⟩

end Go.Proofs.Ytknpjfbjalboeaa
