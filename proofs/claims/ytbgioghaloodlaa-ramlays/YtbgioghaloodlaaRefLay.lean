/-
  The document's Lay and Frame over the translation. No statement is proved here.
-/
import Derived.Test.YtbgioghaloodlaaGrow
namespace Go.Proofs.Ytbgioghaloodlaa
open Go.RowKit

theorem IsRef.drew {w : World} {p bf nf : Nat} {bs : List UInt8} (h : IsRef w p bf nf bs) : IsRef w.drew p bf nf bs := ⟨h.head, h.row, h.len, h.most, h.apart⟩

set_option maxHeartbeats 400000 in
theorem rlay_nil (w : World) (p bf nf : Nat) (bs : List UInt8) (n : Nat) (h : IsRef w p bf nf bs) (hn : n < nf) (a0 : Option Addr) (cap : Nat) :
    Calls Try.prog 23 #[.pointer (some ⟨p, 0, none⟩), .int .i64 (n : Int), .slice a0 0 cap] w fun e w' => e = .returned (.int .i64 0) ∧ w = w' := by
  go_enter Try.func23, Try.ntmps23
  go_wp2_with (go_at_call 26; refine (there_ok _ _ _ _ _ _ h hn).mono ?_; rintro e w' ⟨rfl, rfl⟩)
  refine wp_loop_rounds 1 ?_
  rw [rounds_succ]; go_wp2
  go_ret
  exact ⟨rfl, rfl⟩

set_option maxHeartbeats 1000000 in
theorem rlay_row (w : World) (p bf nf : Nat) (bs : List UInt8) (n : Nat) (h : IsRef w p bf nf bs) (hn : n < nf) (b o len cap : Nat) (data : List UInt8) (hd : data.length = len) (hl : len ≤ 64) (hb : b ≠ bf)
    (hc : ∀ j, (hj : j < data.length) → w.cell? ⟨b, o + j, none⟩ = some (.int .u8 ((data[j].toNat : Nat) : Int))) :
    Calls Try.prog 23 #[.pointer (some ⟨p, 0, none⟩), .int .i64 (n : Int), .slice (some ⟨b, o, none⟩) len cap] w fun e w' => e = .returned (.int .i64 0) ∧ Fr (at' bf) w w' ∧ IsRef w' p bf nf (putAt bs (n * 64) data) := by
  have hm := h.most
  have hle := h.len
  have hl2 : ¬ ((64 : Int) < (len : Int)) := by omega
  have HC : Hid (∀ j, (hj : j < data.length) → w.cell? ⟨b, o + j, none⟩ = some (.int .u8 ((data[j].toNat : Nat) : Int))) := hc
  have HD : Hid (data.length = len) := hd
  clear hc hd
  go_enter Try.func23, Try.ntmps23
  go_wp2_with (go_at_call 26; refine (there_ok _ _ _ _ _ _ h hn).mono ?_; rintro e w' ⟨rfl, rfl⟩)
  go_loopw [8] (fun i wr => ∃ k : Nat, k ≤ len ∧ i = .int .i64 k ∧ Fr (at' bf) w' wr ∧ IsRef wr p bf nf (putAt bs (n * 64) (data.take k))) (fun i _ => len - (intOf i).toNat)
  case atStart => exact ⟨0, by omega, rfl, Fr.refl _ _, h⟩
  case round =>
    obtain ⟨k, hk, rfl, fk, rk⟩ := hrel
    by_cases hlt : k < len
    · have c0 := rk.hcell
      obtain ⟨y, c1⟩ : ∃ y, wr.cell? ⟨bf, 64 * n + k, none⟩ = some y := ⟨_, rk.bcell (64 * n + k) (by rw [length_putAt]; omega)⟩
      have c2 := rk.row.frozen (64 * n + k)
      have i1 : 0 ≤ 64 * (n : Int) + (k : Int) ∧ 64 * (n : Int) + (k : Int) < ((64 * nf : Nat) : Int) := by omega
      have g0 : k < data.length := by rw [HD.out]; exact hlt
      have c3 := cell_keep fk (HC.out k g0) hb
      have HN : Hid (data.take (k + 1) = data.take k ++ [data[k]]) := List.take_succ_eq_append_getElem g0
      generalize data[k] = x at *
      have i2 : 0 ≤ (k : Int) ∧ (k : Int) < (len : Int) := by omega
      go_wp2
      go_region
      go_wp2
      go_roundw
      case rel =>
        refine ⟨k + 1, by omega, by go_num, (fr_set _ _ _ _ fk).drew, ?_⟩
        rw [HN.out]
        exact (rk.set' x _ (by simp; omega)).drew
      case measure => simp [intOf]; omega
    · obtain rfl : k = len := by omega
      go_wp2
      go_ret
      refine ⟨rfl, fk, ?_⟩
      rwa [List.take_of_length_le (by rw [HD.out]; omega)] at rk

/-- Where a slice's bytes lie, if it has any, is no block of the document's memory. -/
def Away (m : Nat) (sp : Option Addr) (bf : Nat) : Prop := 0 < m → ∀ a, sp = some a → a.block ≠ bf

theorem rlay_ok (w : World) (p bf nf : Nat) (bs : List UInt8) (n : Nat) (h : IsRef w p bf nf bs) (hn : n < nf) (sp : Option Addr) (m c : Nat) (data : List UInt8) (hb : Bytes w sp m c data) (hm : m ≤ 64) (ha : Away m sp bf) :
    Calls Try.prog 23 #[.pointer (some ⟨p, 0, none⟩), .int .i64 (n : Int), .slice sp m c] w fun e w' => e = .returned (.int .i64 0) ∧ Fr (at' bf) w w' ∧ IsRef w' p bf nf (putAt bs (n * 64) data) := by
  have hl := hb.len
  by_cases hz : m = 0
  · subst hz
    have e := List.eq_nil_of_length_eq_zero hl
    subst e
    refine (rlay_nil w p bf nf bs n h hn sp c).mono ?_
    rintro e w' ⟨rfl, rfl⟩
    exact ⟨rfl, Fr.refl _ _, h⟩
  · obtain ⟨a, rfl, hc⟩ := hb.src (by omega)
    obtain ⟨b, o, rfl, k0⟩ := src_at (by omega) hc
    exact rlay_row w p bf nf bs n h hn b o m c data hl hm (ha (by omega) _ rfl) k0

/-- A builtin 'append' by its run equation. -/
theorem wpList_append_run {P : Program} {w : World} {ops : Array Oper} {rest : List Oper} {o : Oper} {a : Act} {Q : Exit → Act → World → Prop} (hgd : o.guard = none) (s x : Operand) (t : TypeId)
    (ho : o.op = .call { callee := .builtin .append, args := #[s, x], argTypes := #[t, t] }) (vs vx : Value) (hs : a.eval s = vs) (hx : a.eval x = vx) (v' : Value) (w' : World)
    (hrun : (Builtin.append_ #[t, t] o.type #[vs, vx]).run P w = .ok v' w') (h : wpList P ops Q rest (a.put o.dst v') w') : wpList P ops Q (o :: rest) a w := by
  refine wpList_plain hgd fun K hK => ?_
  unfold Oper.wp
  simp [execOp, ho, resolve, invoke, builtin, hs, hx, hrun, Result.andThen]
  exact hK _ _ h

theorem bytes_frame {w : World} {p bf nf : Nat} {bs : List UInt8} (h : IsRef w p bf nf bs) (n : Nat) (hn : n < nf) (c m : Nat) (hm : m = 64) : Bytes w (some ⟨bf, 64 * n, none⟩) m c (frameOf bs n) := by
  have hl := length_frameOf bs n nf h.len hn
  have hle := h.len
  refine ⟨by rw [hl, hm], fun _ => ⟨_, rfl, fun j hj => ?_⟩, fun e => by simp at e⟩
  rw [add_lit', h.row.cell, byteVals_get bs _ (by omega), frameOf_get bs n nf j h.len hn]
  simp only [Nat.mul_comm]

theorem ret_slice_len {g a b c : Nat} {e : Int} (h : a = b) : Ending.returned (.tuple #[.slice (some ⟨g, 0, none⟩) a c, .int .i64 e]) = .returned (.tuple #[.slice (some ⟨g, 0, none⟩) b c, .int .i64 e]) := by rw [h]

set_option maxHeartbeats 400000 in
theorem rframe_ok (w : World) (p bf nf : Nat) (bs : List UInt8) (n : Nat) (h : IsRef w p bf nf bs) (hn : n < nf) :
    Calls Try.prog 15 #[.pointer (some ⟨p, 0, none⟩), .int .i64 (n : Int)] w fun e w' => ∃ g cap, e = .returned (.tuple #[.slice (some ⟨g, 0, none⟩) 64 cap, .int .i64 0]) ∧ w.heap.size ≤ g ∧ Fr none' w w' ∧ Begins w' g (frameOf bs n) cap := by
  have hm := h.most
  have i1 : 0 ≤ 64 * (n : Int) := by omega
  have i2 : 64 * (n : Int) ≤ 64 * (n : Int) + 64 := by omega
  have i3 : 64 * (n : Int) + 64 ≤ ((64 * nf : Nat) : Int) := by omega
  have c1 := (h.keep ((Fr.refl none' w).alloc (.cells #[] 5)) (fun h => h) (fun h => h)).hcell
  obtain ⟨g, cap, w2, hrun, hg, f2, b2⟩ := append_fresh w 33 _ (64 * n + 64 - 64 * n) (64 * nf - 64 * n) _ (bytes_frame h n hn (64 * nf - 64 * n) (64 * n + 64 - 64 * n) (by omega)) (by omega)
  have HR := hrun
  have HQ : Hid (w.heap.size ≤ g ∧ Fr none' w w2 ∧ Begins w2 g (frameOf bs n) cap) := ⟨hg, f2, b2⟩
  replace HR : Hid ((Builtin.append_ #[33, 33] 33 #[.slice (some ⟨w.heap.size, 0, none⟩) 0 0, .slice (some ⟨bf, 64 * n, none⟩) (64 * n + 64 - 64 * n) (64 * nf - 64 * n)]).run Try.prog (w.alloc (.cells #[] 5)) = .ok (.slice (some ⟨g, 0, none⟩) (64 * n + 64 - 64 * n) cap) w2) := hrun
  clear hrun hg f2 b2
  go_enter Try.func15, Try.ntmps15
  go_wp2_with (first | (go_at_call 26; refine (there_ok _ _ _ _ _ _ h hn).mono ?_; rintro e w' ⟨rfl, rfl⟩) | (at_builtin; refine wpList_append_run rfl _ _ _ rfl _ _ rfl rfl _ _ HR ?_))
  go_ret2
  exact ⟨g, cap, ret_slice_len (by omega), HQ⟩

end Go.Proofs.Ytbgioghaloodlaa
