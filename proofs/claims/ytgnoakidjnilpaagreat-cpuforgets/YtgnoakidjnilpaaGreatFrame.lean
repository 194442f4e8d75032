/-
  Contracts of package ram's Frame over the translation, said of the memory's bytes. No statement is proved here.
-/
import Derived.Test.YtgnoakidjnilpaaGreatFrames
import Derived.Lib.SliceRun
namespace Go.Proofs.YtgnoakidjnilpaaGreat
open Go.RowKit

theorem info5 : (Tryz.prog.info? 5).map (fun i => (i.zero, i.bytes, i.size)) = some (some (.int .u8 0), 1, 1) := by kernel_rfl
theorem size5 : (Tryz.prog.info? 5).map (·.size) = some 1 := by kernel_rfl

theorem made_zeros5 (n : Nat) : madeCells #[.int .u8 0] (n * 1) = byteVals (List.replicate n 0) := by
  apply Array.ext
  · simp [size_madeCells, size_byteVals]
  · intro i h1 h2
    simp [madeCells, byteVals, U8, Nat.mod_one]

theorem make_bytes (n : Int) (h0 : 0 ≤ n) (h2 : n ≤ 65536) (w : World) : (Instr.makeSlice 74 (.int .i64 n) (.int .i64 n)).run Tryz.prog w =
    .ok (.slice (some ⟨w.heap.size, 0, none⟩) n.toNat n.toNat) (w.alloc (.cells (byteVals (List.replicate n.toNat 0)) 5)) := by
  have hi := info5
  cases hq : Tryz.prog.info? 5 with
  | none => simp [hq] at hi
  | some i =>
    rw [hq] at hi
    simp only [Option.map_some, Option.some.injEq, Prod.mk.injEq] at hi
    obtain ⟨hz, hb, hs⟩ := hi
    have := run_make (P := Tryz.prog) w 74 5 i _ Tryz.underlying74 hq hz .i64 .i64 n n h0 (by omega) (by rw [hb]; omega) (by omega)
    rw [this, hs]
    simp only [Value.cells, made_zeros5]

/-- Bytes that lie from an address on. -/
def Src (w : World) (a0 : Option Addr) (data : List UInt8) : Prop :=
  0 < data.length → ∃ a, a0 = some a ∧ ∀ (j : Nat) (hj : j < data.length), w.cell? (a.add j) = some (U8 data[j])

theorem row_setCells (b : Nat) (t : TypeId) (l : List UInt8) : ∀ (w : World) (o : Nat) (bs : List UInt8), Row w b (byteVals bs) t → Row (w.setCells b o (l.map U8)) b (byteVals (putAt bs o l)) t := by
  induction l with
  | nil => intro w o bs h; exact h
  | cons x r ih =>
    intro w o bs h
    rw [List.map_cons, World.setCells, putAt]
    exact ih _ _ _ (by rw [← byteVals_set]; exact h.setCell o _)

theorem fr_setCells (b : Nat) (l : List Value) : ∀ (w0 w : World) (o : Nat), Fr (at' b) w0 w → Fr (at' b) w0 (w.setCells b o l) := by
  induction l with
  | nil => intro w0 w o h; exact h
  | cons x r ih => intro w0 w o h; exact ih _ _ _ (fr_set _ _ _ _ h)

theorem one_U8 (x : UInt8) : (U8 x).oneCell' = true := by simp [U8, Value.oneCell']

/-- 'copy' of bytes into a row of bytes. -/
theorem copy_bytes (w : World) (ty t : TypeId) (b o dLen dCap : Nat) (sp : Option Addr) (sLen sCap : Nat) (bs data : List UInt8) (hr : Row w b (byteVals bs) t) (hn : data.length = Nat.min sLen dLen) (hs : Src w sp data) (hfit : o + data.length ≤ bs.length) :
    ∃ w2, (Builtin.copy_ #[74, 74] ty #[.slice (some ⟨b, o, none⟩) dLen dCap, .slice sp sLen sCap]).run Tryz.prog w = .ok (goInt data.length) w2 ∧ Row w2 b (byteVals (putAt bs o data)) t ∧ Fr (at' b) w w2 := by
  by_cases h0 : data.length = 0
  · have e := List.eq_nil_of_length_eq_zero h0
    subst e
    exact ⟨w, run_copy_none w 74 74 ty 5 _ _ _ _ _ _ Tryz.underlying74 size5 (by simpa using hn.symm), hr, Fr.refl _ _⟩
  · obtain ⟨a, rfl, hc⟩ := hs (by omega)
    refine ⟨w.setCells b o (data.map U8), ?_, row_setCells b t data w o bs hr, fr_setCells b _ w w o (Fr.refl _ _)⟩
    have := run_copy_cells (P := Tryz.prog) w 74 74 ty 5 b o dLen dCap a sLen sCap (data.map U8) Tryz.underlying74 size5 (by simpa using hn)
      (fun j v hv => by
        rw [List.getElem?_map] at hv
        cases hq : data[j]? with
        | none => simp [hq] at hv
        | some x =>
          obtain ⟨hj, hx⟩ := List.getElem?_eq_some_iff.1 hq
          simp [hq] at hv
          rw [hc j hj, hx, hv])
      (fun j hj => by rw [hr.cell, byteVals_get bs _ (by simp at hj; omega)]; rfl) (fun j _ => hr.frozen _)
      (fun v hv => by obtain ⟨x, _, rfl⟩ := List.mem_map.1 hv; exact one_U8 x)
    simpa using this

/-- A frame's bytes. -/
def frameOf (bs : List UInt8) (n : Nat) : List UInt8 := (bs.drop (n * 64)).take 64

theorem length_frameOf (bs : List UInt8) (n nf : Nat) (h : bs.length = 64 * nf) (hn : n < nf) : (frameOf bs n).length = 64 := by
  simp [frameOf]; omega

theorem frameOf_get (bs : List UInt8) (n nf j : Nat) (h : bs.length = 64 * nf) (hn : n < nf) (hj : j < (frameOf bs n).length) : (frameOf bs n)[j] = bs[n * 64 + j]'(by rw [length_frameOf bs n nf h hn] at hj; omega) := by
  simp [frameOf]

theorem putAt_all (bs l : List UInt8) (h : l.length = bs.length) : putAt bs 0 l = l := by
  apply List.ext_getElem?
  intro j
  rw [putAt_get? l bs 0 (by omega)]
  by_cases hj : j < l.length
  · rw [if_pos (by omega)]; rfl
  · rw [if_neg (by omega), List.getElem?_eq_none (by omega), List.getElem?_eq_none (by omega)]

theorem src_frame {w : World} {p bf nf : Nat} {bs : List UInt8} (h : IsRam w p bf nf bs) (n : Nat) (hn : n < nf) : Src w (some ⟨bf, n * 64, none⟩) (frameOf bs n) := by
  intro _
  refine ⟨_, rfl, fun j hj => ?_⟩
  have hl := length_frameOf bs n nf h.len hn
  have hle := h.len
  have hadd : (⟨bf, n * 64, none⟩ : Addr).add j = ⟨bf, n * 64 + j, none⟩ := by unfold Addr.add; split <;> simp_all
  rw [hadd, h.row.cell, byteVals_get bs _ (by omega), frameOf_get bs n nf j h.len hn]

set_option maxHeartbeats 400000 in
theorem frame_ok (w : World) (p bf nf : Nat) (bs : List UInt8) (n : Nat) (h : IsRam w p bf nf bs) (hn : n < nf) :
    Calls Tryz.prog 22 #[.pointer (some ⟨p, 0, none⟩), .int .i64 (n : Int)] w fun e w' => e = .returned (.tuple #[.slice (some ⟨w.heap.size, 0, none⟩) 64 64, .int .i64 0]) ∧
      Fr none' w w' ∧ Row w' w.heap.size (byteVals (frameOf bs n)) 5 := by
  have hd : decide ((n : Int) < nf) = true := by simp; omega
  have hlt : (n : Int) < (nf : Int) := by omega
  have hmk := make_bytes 64 (by omega) (by omega)
  rw [show (64 : Int).toNat = 64 from rfl] at hmk
  have hr := row_alloc w (byteVals (List.replicate 64 0)) 5
  have hl := length_frameOf bs n nf h.len hn
  have h' : IsRam (w.alloc (.cells (byteVals (List.replicate 64 0)) 5)) p bf nf bs := h.keep ((Fr.refl none' w).alloc _) (fun h => h) (fun h => h)
  obtain ⟨w2, hcp, hr2, hf2⟩ := copy_bytes _ 3 5 w.heap.size 0 64 64 (some ⟨bf, n * 64, none⟩) 64 64 _ (frameOf bs n) hr (by rw [hl]; rfl) (src_frame h' n hn) (by rw [hl]; simp)
  rw [putAt_all _ _ (by rw [hl]; simp)] at hr2
  have HR : Hid (Fr none' w w2 ∧ Row w2 w.heap.size (byteVals (frameOf bs n)) 5) := ⟨((Fr.refl _ _).alloc _).new hf2, hr2⟩
  have hc := h.hcell
  have hc2 := h'.hcell
  clear hr h' hr2 hf2 h
  generalize byteVals (List.replicate 64 0) = zs at *
  generalize hq : (frameOf bs n).length = q at *
  go_enter Tryz.func22, Tryz.ntmps22
  go_wp2_with (go_at_call 62; refine (has_yes _ _ _ _ _ hc (by omega)).mono ?_; rintro e w' ⟨rfl, rfl⟩)
  go_ret2
  exact ⟨rfl, HR⟩

theorem has_no (b bf : Nat) (nf : Nat) (n : Int) (w : World) (h : w.cell? ⟨b, 0, none⟩ = some (.slice (some ⟨bf, 0, none⟩) nf nf)) (hn : ¬ (0 ≤ n ∧ n < (nf : Int))) :
    Calls Tryz.prog 62 #[.pointer (some ⟨b, 0, none⟩), .int .i64 n] w fun e w' => e = .returned (.bool false) ∧ w' = w := by
  by_cases h0 : n < 0
  · exact has_neg b n w h0
  · refine (has_yes b bf nf n w h (by omega)).mono ?_
    rintro e w' ⟨rfl, rfl⟩
    exact ⟨by rw [decide_eq_false (by omega)], rfl⟩

set_option maxHeartbeats 400000 in
theorem frame_bad (w : World) (p bf nf : Nat) (bs : List UInt8) (n : Int) (h : IsRam w p bf nf bs) (hn : ¬ (0 ≤ n ∧ n < (nf : Int))) :
    Calls Tryz.prog 22 #[.pointer (some ⟨p, 0, none⟩), .int .i64 n] w fun e w' => e = .returned (.tuple #[.slice none 0 0, .int .i64 10]) ∧ w = w' := by
  have hc := h.hcell
  clear h
  have HN : Hid (¬ (0 ≤ n ∧ n < (nf : Int))) := hn
  clear hn
  go_enter Tryz.func22, Tryz.ntmps22
  go_wp2_with (go_at_call 62; refine (has_no _ _ _ _ _ hc HN).mono ?_; rintro e w' ⟨rfl, rfl⟩)
  go_ret2
  exact ⟨rfl, rfl⟩

end Go.Proofs.YtgnoakidjnilpaaGreat
