/-
  A slice of acts and a slice of bytes that came in, opened: from the form's own reading to 'Acts' and 'Bytes'. No statement is proved here.
-/
import Derived.Test.YtbgioghaloodlaaActs
import Derived.Deep.Fields
import Derived.SizedLaws
import Derived.OpenShut
namespace Go.Proofs.Ytbgioghaloodlaa
open Go.ChangeShapes Go.WideShapes Go.ChangeAt Go.RowKit Go.Deep

theorem cells35 : Try.prog.cellsOf 35 = 5 := by kernel_rfl
theorem cells5 : Try.prog.cellsOf 5 = 1 := by kernel_rfl
theorem cells3 : Try.prog.cellsOf 3 = 1 := by kernel_rfl
theorem cells32 : Try.prog.cellsOf 32 = 1 := by kernel_rfl
theorem cells33 : Try.prog.cellsOf 33 = 1 := by kernel_rfl
theorem bytes5 : Try.prog.bytesOf 5 = 1 := by kernel_rfl

def byteOf (z : Int) : UInt8 := UInt8.ofNat z.toNat

theorem U8_byteOf {z : Int} (h : (Lit.int .u8 z).wf = true) : U8 (byteOf z) = .int .u8 z := by
  have hb := bounds_u8 h
  rw [byteOf, U8_ofNat]
  congr 1
  omega

/-- A slice of bytes, opened. -/
theorem bytes_open {H : Type} {enc : TypeId × Value → H} {W : World} {fuel : Nat} {v : Value} {d : DataW H} {pl : List MemPlace} (hf : DataW.trod enc Try.prog W 0 (fun _ => true) true fuel 33 [v] = some (d, pl)) (hsz : ∀ n ∈ d.weights Try.prog 33, n ≤ reachBytes) :
    ∃ sp m c data, v = .slice sp m c ∧ Bytes W sp m c data ∧ m ≤ 140737488355328 ∧ (0 < m → ∀ x, sp = some x → x.block < W.heap.size) := by
  rcases open_ints Try.underlying33 Try.underlying5 cells5 hf with ⟨hcs, _⟩ | ⟨a, len, cap, zs, hcs, _, hl, hm, hz, hx, hcell, hwz⟩
  · obtain rfl : v = .slice none 0 0 := by simpa using hcs
    exact ⟨none, 0, 0, [], rfl, ⟨rfl, fun h => by simp at h, fun _ => ⟨rfl, rfl⟩⟩, by omega, fun h => by omega⟩
  · obtain rfl : v = .slice (some a) len cap := by simpa using hcs
    have hz' : zs.length = cap := by simpa using hz
    obtain ⟨rfl, _⟩ := Prod.mk.inj hx
    have hw := hsz (((lits (H := H) .u8 (zs.take len)).length + (lits (H := H) .u8 (zs.drop len)).length) * Try.prog.bytesOf 5) (by simp [DataW.weights, Try.underlying33])
    rw [bytes5] at hw
    simp only [lits, List.length_map, List.length_take, List.length_drop, reachBytes] at hw
    have hlen : ((zs.take len).map byteOf).length = len := by simp; omega
    refine ⟨some a, len, cap, (zs.take len).map byteOf, rfl, ⟨hlen, fun _ => ⟨a, rfl, fun j hj => ?_⟩, fun e => by simp at e⟩, by omega, fun hp x hx => ?_⟩
    · rw [hlen] at hj
      rw [hcell j (by omega)]
      have hjz : j < zs.length := by omega
      have e : ((zs.take len).map byteOf)[j]'(by rw [hlen]; exact hj) = byteOf zs[j] := by simp
      rw [e, U8_byteOf (hwz _ (List.getElem_mem hjz))]
      simp [List.getD, hjz]
    · obtain rfl := Option.some.inj hx
      have := cell_lt (hcell 0 (by omega))
      have e : (a.add 0).block = a.block := by unfold Addr.add; split <;> rfl
      rwa [e] at this

/-- An element's weights are among its slice's. -/
theorem weights_all {H : Type} (P : Program) (e : TypeId) : ∀ (l : List (DataW H)) (d : DataW H), d ∈ l → ∀ n ∈ d.weights P e, n ∈ DataW.weightsAll P e l
  | x :: r, d, hd, n, hn => by
    simp only [DataW.weightsAll, List.mem_append]
    rcases List.mem_cons.1 hd with rfl | hd
    · exact Or.inl hn
    · exact Or.inr (weights_all P e r d hd n hn)

theorem field_cell {cs : List Value} (hl : cs.length = 5) (i : Nat) (hi : i < 5) : (cs.drop i).take 1 = [cs[i]] := by
  rw [List.drop_eq_getElem_cons (by omega), List.take_succ_cons, List.take_zero]

/-- One act, opened. -/
theorem act_open {H : Type} {enc : TypeId × Value → H} {W : World} {n : Nat} {cs : List Value} {d : DataW H} {pl : List MemPlace} (b o : Nat) (hcell : ∀ j, j < 5 → W.cell? ⟨b, o + j, none⟩ = cs[j]?) (hl : cs.length = 5)
    (h : DataW.trod enc Try.prog W 0 (fun _ => true) true n 35 cs = some (d, pl)) (hsz : ∀ n ∈ d.weights Try.prog 35, n ≤ reachBytes) :
    ∃ dO a s v m c sp data, ActIs W W.heap.size b o dO a s v m c sp data := by
  obtain ⟨xs, n', _, hx, _, hxl, hf⟩ := DataW.trod_struct Try.underlying35 h
  obtain ⟨rfl, rfl⟩ := Prod.mk.inj hx
  have g0 : DataW.trod enc Try.prog W 0 (fun _ => true) true n' 3 ((cs.drop 0).take (Try.prog.cellsOf 3)) = xs[0]? := hf 0 _ rfl
  have g1 : DataW.trod enc Try.prog W 0 (fun _ => true) true n' 3 ((cs.drop 1).take (Try.prog.cellsOf 3)) = xs[1]? := hf 1 _ rfl
  have g2 : DataW.trod enc Try.prog W 0 (fun _ => true) true n' 3 ((cs.drop 2).take (Try.prog.cellsOf 3)) = xs[2]? := hf 2 _ rfl
  have g3 : DataW.trod enc Try.prog W 0 (fun _ => true) true n' 32 ((cs.drop 3).take (Try.prog.cellsOf 32)) = xs[3]? := hf 3 _ rfl
  have g4 : DataW.trod enc Try.prog W 0 (fun _ => true) true n' 33 ((cs.drop 4).take (Try.prog.cellsOf 33)) = xs[4]? := hf 4 _ rfl
  have hxl' : xs.length = 5 := hxl
  rw [cells3, field_cell hl 0 (by omega), List.getElem?_eq_getElem (by omega)] at g0
  rw [cells3, field_cell hl 1 (by omega), List.getElem?_eq_getElem (by omega)] at g1
  rw [cells3, field_cell hl 2 (by omega), List.getElem?_eq_getElem (by omega)] at g2
  rw [cells32, field_cell hl 3 (by omega), List.getElem?_eq_getElem (by omega)] at g3
  rw [cells33, field_cell hl 4 (by omega), List.getElem?_eq_getElem (by omega)] at g4
  obtain ⟨dO, e0, _, _⟩ := DataW.trod_int Try.underlying3 g0
  obtain ⟨a, e1, _, w1⟩ := DataW.trod_int Try.underlying3 g1
  obtain ⟨s, e2, _, _⟩ := DataW.trod_int Try.underlying3 g2
  obtain ⟨v, e3, _, w3⟩ := DataW.trod_int Try.underlying32 g3
  obtain ⟨sp, m, c, data, e4, hb, hm, ho⟩ := bytes_open (d := xs[4].1) (pl := xs[4].2) g4 (fun k hk => hsz k (by
    simp only [DataW.weights, Try.underlying35]
    exact DataW.weights_mem_each (j := 4) (t := 33) (d := xs[4].1) rfl (by simp [hxl']) k hk))
  simp only [List.cons.injEq, and_true] at e0 e1 e2 e3
  have hv := bounds_u32 w3
  have ha := bounds_i64 w1
  have k0 := hcell 0 (by omega)
  have k1 := hcell 1 (by omega)
  have k2 := hcell 2 (by omega)
  have k3 := hcell 3 (by omega)
  have k4 := hcell 4 (by omega)
  rw [List.getElem?_eq_getElem (by omega)] at k0 k1 k2 k3 k4
  rw [e0] at k0
  rw [e1] at k1
  rw [e2] at k2
  rw [e3] at k3
  rw [e4] at k4
  obtain ⟨v, rfl⟩ := Int.eq_ofNat_of_zero_le hv.1
  exact ⟨dO, a, s, v, m, c, sp, data, k0, k1, k2, k3, k4, hb, hm, ho, ha.2, by omega⟩

/-- A slice of acts, opened. -/
theorem acts_open {H : Type} {enc : TypeId × Value → H} {W : World} {fuel : Nat} {a0 : Option Addr} {len cap : Nat} {d : DataW H} {pl : List MemPlace} (hf : DataW.trod enc Try.prog W 0 (fun _ => true) true fuel 22 [.slice a0 len cap] = some (d, pl)) (hsz : ∀ n ∈ d.weights Try.prog 22, n ≤ reachBytes) :
    len ≤ 9223372036854775807 ∧ (len = 0 ∨ ∃ b o, a0 = some ⟨b, o, none⟩ ∧ Acts W W.heap.size b o len) := by
  rcases open_slice Try.underlying22 hf with ⟨hcs, _⟩ | ⟨a, l, c, m, n, D, Pl, hcs, _, hl, hm, hmm, hx, hel⟩
  · simp only [List.cons.injEq, Value.slice.injEq, and_true] at hcs
    obtain ⟨rfl, rfl, rfl⟩ := hcs
    exact ⟨by omega, Or.inl rfl⟩
  · simp only [List.cons.injEq, Value.slice.injEq, and_true] at hcs
    obtain ⟨rfl, rfl, rfl⟩ := hcs
    have hmm' : m = cap := by simpa using hmm
    subst hmm'
    refine ⟨by simp only [maxLen] at hm; omega, ?_⟩
    by_cases hz : len = 0
    · exact Or.inl hz
    right
    rw [cells35] at hel
    obtain ⟨b, o, spot⟩ := a
    have hspot : spot = none := by
      obtain ⟨cs', h1, _⟩ := hel 0 (by omega)
      obtain ⟨_, hlen, hc⟩ := World.cells?_some h1
      have := hc 0 (by omega)
      rw [List.getElem?_eq_getElem (by omega)] at this
      simpa [Addr.add] using World.cell?_spot this
    subst hspot
    obtain ⟨rfl, _⟩ := Prod.mk.inj hx
    have hcells : ∀ i, i < m → ∃ cs', cs'.length = 5 ∧ (∀ j, j < 5 → W.cell? ⟨b, o + i * 5 + j, none⟩ = cs'[j]?) ∧ DataW.trod enc Try.prog W 0 (fun _ => true) true n 35 cs' = some (D i, Pl i) := fun i hi => by
      obtain ⟨cs', h1, h2⟩ := hel i hi
      obtain ⟨_, hlen, hc⟩ := World.cells?_some h1
      refine ⟨cs', hlen, fun j hj => ?_, h2⟩
      have := hc j hj
      rwa [add_lit', add_lit'] at this
    refine ⟨b, o, rfl, ?_, fun i hi => ?_⟩
    · obtain ⟨cs', hlen, hc, _⟩ := hcells 0 (by omega)
      have := hc 0 (by omega)
      rw [List.getElem?_eq_getElem (by omega)] at this
      exact cell_lt this
    · obtain ⟨cs', hlen, hc, h2⟩ := hcells i (by omega)
      refine act_open b (o + i * 5) hc hlen h2 (fun k hk => hsz k ?_)
      simp only [DataW.weights, Try.underlying22, List.mem_cons, List.mem_append]
      exact Or.inr (Or.inl (weights_all Try.prog 35 _ (D i) (List.mem_map.2 ⟨i, List.mem_range.2 hi, rfl⟩) k hk))

end Go.Proofs.Ytbgioghaloodlaa
