/-
  The contract of package asm's 'encodeAll' over the translation: the items' words. No statement is proved here.
-/
import Derived.Test.YtecipogfdhpjfaaGreatDoorAsmEnc2
namespace Go.Proofs.YtecipogfdhpjfaaGreatDoor
open Go.RowKit Go.Maps Go.WideMaps

/-- The items' words, or the first line that names what it cannot. -/
def wordsP (m : List UInt8 → Option Int) : List St → Nat → List Int → Except Nat (List Int)
  | [], _, out => .ok out
  | st :: S, n, out => if st.2.1 = -1 then wordsP m S (n + 1) out else if (encR m st.2.1 (layB st.2.1) st.2.2 0 0 0 0).2 = false then .error n else wordsP m S (n + 1) (out ++ [(encR m st.2.1 (layB st.2.1) st.2.2 0 0 0 0).1])

theorem info_u32 : (Tryz.prog.info? 28).map (fun i => (i.zero, i.size, i.bytes)) = some (some (.int .u32 0), 1, 4) := by kernel_rfl
theorem wpList_u32 {W : World} {ops : Array Oper} {rest : List Oper} {o : Oper} {a : Act} {Q : Exit → Act → World → Prop} (hgd : o.guard = none) (s x : Operand)
    (ho : o.op = .call { callee := .builtin .append, args := #[s, x], argTypes := #[23, 23] }) (hty : o.type = 23) (vs : Value) (u : Int) (g : Nat) (L : List Int) (hs : a.eval s = vs) (hx : a.eval x = .slice (some ⟨g, 0, none⟩) 1 1) (hg : g = W.heap.size)
    (B : Nat) (hB : B ≤ W.heap.size) (hO : OwnK 28 1 W B vs L.length (L.map (Value.int .u32))) (hn : L.length < 100000)
    (h : ∀ v' w', Fr (fun q => some q = vs.ownBlock) W w' → OwnK 28 1 w' B v' (L ++ [u]).length ((L ++ [u]).map (Value.int .u32)) → wpList Tryz.prog ops Q rest (a.put o.dst v') w') :
    wpList Tryz.prog ops Q (o :: rest) a (W.alloc (.cells #[.int .u32 u] 28)) := by
  subst hg
  have hr := row_alloc W #[.int .u32 u] 28
  obtain ⟨v', w', g1, g2, g3⟩ := append_k (T := 23) Tryz.underlying23 info_u32 rfl (by omega) (by omega) (W.alloc (.cells #[.int .u32 u] 28)) B ⟨W.heap.size, 0, none⟩ vs L.length (L.map (Value.int .u32)) [.int .u32 u] (Nat.le_trans hB (by simp)) (hO.alloc _) (by omega) rfl
    (fun j z hz => by
      rw [add_lit', hr.cell]
      match j, hz with
      | 0, hz => simpa using hz
      | j + 1, hz => simp at hz) (by simp [Value.oneCell'])
  exact wpList_append_runK hgd s x _ ho vs _ hs hx v' w' (by rw [hty]; exact g1) (h v' w' (((Fr.refl _ W).alloc _).trans g2) (by simpa using g3))

def EncPost (w w' : World) (m : List UInt8 → Option Int) (S : List St) (e : Ending) : Prop :=
  (match wordsP m S 1 [] with
   | .error n => e = .returned (.tuple #[.slice none 0 0, .int .i64 (n : Nat), .int .i64 62])
   | .ok ws => ∃ v, e = .returned (.tuple #[v, .int .i64 0, .int .i64 0]) ∧ OwnK 28 1 w' w.heap.size v ws.length (ws.map (Value.int .u32))) ∧ Fr none' w w'

set_option maxRecDepth 100000 in
set_option maxHeartbeats 3200000 in
theorem encodeall_any (v : Value) (S : List St) (L : List Value) (B bk kk : Nat) (D : DataW Unit) (m : List UInt8 → Option Int) (w : World) (hS : S ≠ []) (hO : OwnK 67 3 w B v S.length L) (hT : Sts w L S) (hn : S.length ≤ 4001)
    (hown : w.ownsMap Tryz.prog 9 (plainElem Tryz.prog 3) bk kk D) (hmp : Mp D m) (hl : ∀ st ∈ S, st.2.1 ≠ -1 → st.2.2.length = (layB st.2.1).length) (hlen : ∀ st ∈ S, ∀ s, Tok.nm s ∈ st.2.2 → s.length ≤ 4000) :
    Calls Tryz.prog 12 #[v, .map (some bk)] w fun e w' => EncPost w w' m S e := by
  obtain ⟨g, cap, cur, rfl, _, hr, hcap, _, hcs, hx⟩ := hO.row (by simpa using hS)
  have HR : Hid (Row w g cur 67) := hr
  have HC : Hid (∀ k st, S[k]? = some st → ∃ z, cur[k * 3]? = some (strV st.1) ∧ cur[k * 3 + 1]? = some (.int .i64 st.2.1) ∧ cur[k * 3 + 2]? = some z ∧ Toks w z st.2.2) := fun k st hk => by
    obtain ⟨z, a1, a2, a3, a4⟩ := hT.get k hk
    exact ⟨z, hx _ _ a1, hx _ _ a2, hx _ _ a3, a4⟩
  have HO : Hid (w.ownsMap Tryz.prog 9 (plainElem Tryz.prog 3) bk kk D) := hown
  have HM : Hid (Mp D m) := hmp
  have HLL : Hid (∀ st ∈ S, st.2.1 ≠ -1 → st.2.2.length = (layB st.2.1).length) := hl
  have HNN : Hid (∀ st ∈ S, ∀ s, Tok.nm s ∈ st.2.2 → s.length ≤ 4000) := hlen
  clear hO hT hlen hS hx hr hcs hcap hown hmp hl
  go_enter Tryz.func12, Tryz.ntmps12
  go_wp2_with fail
  go_loopw [4, 13] (fun a b wr => ∃ (k : Nat) (ws : List Int), k ≤ S.length ∧ b = .int .i64 k ∧ wordsP m S 1 [] = wordsP m (S.drop k) (k + 1) ws ∧ ws.length ≤ k ∧ OwnK 28 1 wr w.heap.size a ws.length (ws.map (Value.int .u32)) ∧ Fr none' w wr) (fun _ b _ => S.length - (intOf b).toNat)
  case atStart => exact ⟨0, [], by omega, rfl, rfl, by simp, ownk_nil _ _ _ _, Fr.refl _ _⟩
  case round =>
    obtain ⟨k, ws, hk, rfl, hws, hwl, ow, fk⟩ := hrel
    by_cases he : k = S.length
    · subst he
      have tt : decide (S.length < S.length) = false := by simp
      have HL : Hid (wordsP m S 1 [] = .ok ws) := by show _ = _; rw [hws, List.drop_length]; rfl
      have HW : Hid (OwnK 28 1 wr w.heap.size u4 ws.length (ws.map (Value.int .u32))) := ow
      clear hws ow hk
      go_wp2_with fail
      go_ret3
      refine ⟨?_, fk⟩
      rw [HL.out]
      exact ⟨u4, rfl, HW.out⟩
    · have hlt : k < S.length := by omega
      obtain ⟨st, hst⟩ : ∃ st, S[k]? = some st := ⟨_, List.getElem?_eq_getElem hlt⟩
      obtain ⟨z, a1, a2, a3, a4⟩ := HC.out k st hst
      have rk := HR.out.keep fk (fun h => h)
      have b1 : wr.cell? ⟨g, k * 3, none⟩ = some (strV st.1) := by rw [rk.cell]; exact a1
      have b2 : wr.cell? ⟨g, k * 3 + 1, none⟩ = some (.int .i64 st.2.1) := by rw [rk.cell]; exact a2
      have b3 : wr.cell? ⟨g, k * 3 + 2, none⟩ = some z := by rw [rk.cell]; exact a3
      have hz4 := a4
      obtain ⟨va, vn, vc, rfl⟩ : ∃ a n c, z = .slice a n c := by
        rcases a4 with ⟨_, a, c, h⟩ | ⟨b, off, c, cs, h, _⟩
        · exact ⟨a, 0, c, h⟩
        · exact ⟨_, _, c, h⟩
      have hdrop : S.drop k = st :: S.drop (k + 1) := by
        rw [List.drop_eq_getElem_cons hlt]
        congr 1
        exact (List.getElem?_eq_some_iff.1 hst).2
      rw [hdrop] at hws
      have tt : decide (k < S.length) = true := by simpa using hlt
      have HK : Hid (k < S.length ∧ S.length ≤ 4001) := ⟨hlt, hn⟩
      have HWS : Hid (wordsP m S 1 [] = wordsP m (st :: S.drop (k + 1)) (k + 1) ws) := hws
      have HWL : Hid (ws.length ≤ k) := hwl
      have hmem := List.mem_of_getElem? hst
      obtain ⟨lb, op, ts⟩ := st
      simp only [strV] at b1 b2 hz4 HWS hmem
      have a5 := (Fr.refl none' wr).alloc (.cells #[.string ⟨lb.toArray⟩, .int .i64 op, .slice va vn vc] 67)
      have o5 := ow.keep0 a5
      have F5 := fk.trans a5
      generalize (⟨lb.toArray⟩ : ByteArray) = lbb at b1 a5 o5 F5
      have r5 := row_alloc wr #[.string lbb, .int .i64 op, .slice va vn vc] 67
      obtain ⟨p0, p1, p2⟩ := sbox_cells r5
      clear a1 a2 a3 a4 hst hdrop rk hk hws
      by_cases ho : op = -1
      · have tto : (op == -1) = true := by simpa using ho
        have HOP : Hid (op = -1) := ho
        clear ho
        go_wp2_with fail
        go_roundw
        case rel =>
          refine ⟨k + 1, ws, by have := HK.out; omega, by first | rfl | go_num, ?_, by omega, o5, F5⟩
          rw [HWS.out]
          simp only [wordsP]
          rw [if_pos HOP.out]
        case measure => have := HK.out; simp [intOf]; omega
      · have tto : (op == -1) = false := by simpa using ho
        have HOP : Hid (¬ op = -1) := ho
        have hEn := encode_any (.string lbb) op (.slice va vn vc) ts bk kk D m _ (own_fr HO.out F5) HM.out (hz4.keep F5) (HLL.out _ hmem ho) (HNN.out _ hmem)
        obtain ⟨rw1, rw2, hrr⟩ : ∃ r1 r2, encR m op (layB op) ts 0 0 0 0 = (r1, r2) := ⟨_, _, rfl⟩
        rw [hrr] at hEn
        have HRR : Hid (encR m op (layB op) ts 0 0 0 0 = (rw1, rw2)) := hrr
        clear ho hrr hmem hz4
        cases rw2
        · go_wp2_with (first | (go_at_call 25; refine hEn.mono ?_; rintro e w6 ⟨rfl, f6⟩))
          go_ret3
          refine ⟨?_, F5.trans f6⟩
          rw [HWS.out]
          simp only [wordsP]
          rw [if_neg HOP.out, HRR.out, if_pos rfl]
          first | rfl | (simp; omega)
        · go_wp2_with (first | (go_at_call 25; refine hEn.mono ?_; rintro e w6 ⟨rfl, f6⟩; have o6 := o5.keep0 f6; have F6 := F5.trans f6; have hB6 := F6.size) | (at_builtin; refine wpList_u32 rfl _ _ rfl rfl _ _ _ ws rfl rfl (by simp) w.heap.size (by exact hB6) (by exact o6) (by have := HK.out; have := HWL.out; omega) ?_; intro v7 w7 g7 o7))
          go_roundw
          case rel =>
            refine ⟨k + 1, ws ++ [rw1], by have := HK.out; omega, by first | rfl | go_num, ?_, by simp; omega, o7, F6.ownK g7 o6⟩
            rw [HWS.out]
            simp only [wordsP]
            rw [if_neg HOP.out, HRR.out, if_neg (by simp)]
          case measure => have := HK.out; simp [intOf]; omega

end Go.Proofs.YtecipogfdhpjfaaGreatDoor
