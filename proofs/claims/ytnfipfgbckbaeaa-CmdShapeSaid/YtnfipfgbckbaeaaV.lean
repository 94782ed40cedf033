import Derived.Test.YtnfipfgbckbaeaaT
import Derived.Test.YtnfipfgbckbaeaaL
set_option linter.unusedVariables false
namespace Go.Proofs.Ytnfipfgbckbaeaa
open Go.RowKit Go.ChangeShapes Go.WideShapes
theorem str_inj : ∀ {a b : List Int} (_ : Byts a) (_ : Byts b), strOfNums a = strOfNums b → a = b := by
  intro a b ha hb h
  have h2 : a.map (fun n => UInt8.ofNat n.toNat) = b.map (fun n => UInt8.ofNat n.toNat) := by
    rw [← strOfNums_data, ← strOfNums_data, h]
  clear h
  induction a generalizing b with
  | nil => cases b with
    | nil => rfl
    | cons y b => simp at h2
  | cons x a ih => cases b with
    | nil => simp at h2
    | cons y b =>
      simp only [List.map_cons, List.cons.injEq] at h2
      have hx := ha x (by simp)
      have hy := hb y (by simp)
      have e := congrArg UInt8.toNat h2.1
      simp only [UInt8.toNat_ofNat'] at e
      rw [Nat.mod_eq_of_lt (by omega), Nat.mod_eq_of_lt (by omega)] at e
      rw [show x = y by omega, ih (fun z hz => ha z (by simp [hz])) (fun z hz => hb z (by simp [hz])) h2.2]
theorem str_ne {a b : List Int} (ha : Byts a) (hb : Byts b) (h : a ≠ b) : (strOfNums a == strOfNums b) = false := by
  rw [beq_toListBytes, beq_eq_false_iff_ne]
  intro e
  exact h (str_inj ha hb (ByteArray.ext (Array.ext' (by simpa [ByteArray.toList_eq] using e))))
theorem okWide_array {P : Program} {w : World} {r : Reach} {base : Nat} {t : TypeId} {v : Value} {n : Nat} {e : TypeId} (ht : P.underlying t = some (.array n e)) (h : Value.okWide P w r base t v) : ∃ cs, v = .agg cs ∧ cs.size = P.cellsOf t := by
  simp only [Value.okWide, ht] at h
  obtain ⟨cs, h1, h2, _⟩ := h
  exact ⟨cs, h1, h2⟩
theorem open_arr5 {H : Type} {enc : TypeId × Value → H} {W : World} {base b0 : Nat} {held : Bool} {rr : Reach} {v : Value} {d : DataW H} {p : List MemPlace}
    (hv : Value.okWide Try.prog W rr b0 22 v) (h : DataW.Trod enc Try.prog W base (fun _ => true) held 22 v d p) :
    ∃ n0 n1 n2 n3 n4 : Int, v = .agg #[.int .u8 n0, .int .u8 n1, .int .u8 n2, .int .u8 n3, .int .u8 n4] ∧ Byts [n0, n1, n2, n3, n4] := by
  obtain ⟨⟨cs⟩, rfl, hsz⟩ := okWide_array Try.underlying22 hv
  obtain ⟨v1, v2, v3, v4, v5, rfl⟩ := list5 (l := cs) (by simpa [q22] using hsz)
  obtain ⟨fuel, hf⟩ := h
  obtain ⟨zs, m, _, _, _, zl, hz⟩ := DataW.trod_array Try.underlying22 hf
  have z_ : ∀ j (hj : j < 5) (u : Value), [v1, v2, v3, v4, v5][j]? = some u → ∃ x, u = .int .u8 x ∧ 0 ≤ x ∧ x < 256 := fun j hj u hu => by
    have := hz j hj
    rw [q5, Nat.mul_one] at this
    have e : (([v1, v2, v3, v4, v5] : List Value).drop j).take 1 = [u] := by
      have hj' : j < [v1, v2, v3, v4, v5].length := hj
      rw [List.drop_eq_getElem_cons hj', List.take_succ_cons, List.take_zero]
      rw [List.getElem?_eq_getElem hj'] at hu
      injection hu with hu
      rw [hu]
    simp only [Value.cells] at this
    rw [e, List.getElem?_eq_getElem (by rw [zl]; exact hj)] at this
    obtain ⟨x, qx, _, wx⟩ := DataW.trod_int Try.underlying5 this
    injection qx with qx
    exact ⟨x, qx, (wf_u8 wx).1, (wf_u8 wx).2⟩
  obtain ⟨a0, rfl, l0, m0⟩ := z_ 0 (by omega) _ rfl
  obtain ⟨a1, rfl, l1, m1⟩ := z_ 1 (by omega) _ rfl
  obtain ⟨a2, rfl, l2, m2⟩ := z_ 2 (by omega) _ rfl
  obtain ⟨a3, rfl, l3, m3⟩ := z_ 3 (by omega) _ rfl
  obtain ⟨a4, rfl, l4, m4⟩ := z_ 4 (by omega) _ rfl
  exact ⟨a0, a1, a2, a3, a4, rfl, by intro b hb; simp at hb; rcases hb with rfl | rfl | rfl | rfl | rfl <;> exact ⟨‹_›, ‹_›⟩⟩
theorem OfX_byts {c Wn : Int} {nl ys : List Int} (h0 : 0 ≤ c) (h1 : c < 256) (hn : Byts nl) (hy : Byts ys) : Byts (OfX c Wn nl ys) := by
  unfold OfX
  refine putL_byts h0 h1 (padS_byts c hn) fun b hb => ?_
  have hb' := List.mem_of_mem_take hb
  rcases List.mem_append.1 hb' with h | h
  · exact hy b (List.mem_of_mem_take h)
  · have := List.eq_of_mem_replicate h; omega
theorem OfX_ne {a b Wn : Int} {nl ys : List Int} (h : a ≠ b) : OfX a Wn nl ys ≠ OfX b Wn nl ys := by
  intro he
  unfold OfX putL at he
  simp at he
  exact h he.1
theorem ok_no {c : Int} (h : ok c = false) : c < 1 ∨ 26 < c := by
  simp [ok] at h; omega
set_option maxRecDepth 100000 in
set_option maxHeartbeats 2000000 in
theorem CmdShape_law (w : World) (a : Int) (a0 : 0 ≤ a) (a1 : a < 256) (b : Int) (b0 : 0 ≤ b) (b1 : b < 256) (n0 n1 n2 n3 n4 : Int) (hnl : Byts [n0, n1, n2, n3, n4]) (Wn : Int) (W0 : 0 ≤ Wn) (W1 : Wn < 4294967296)
    (Y : Option Addr) (m d : Nat) (ys : List Int) (hy : Rd w Y m ys) (hmd : m ≤ d) (hd : d ≤ maxLen) :
    Calls Try.prog 7 #[.int .u8 a, .int .u8 b, .agg #[.int .u8 n0, .int .u8 n1, .int .u8 n2, .int .u8 n3, .int .u8 n4], .int .u32 Wn, .slice Y m d] w fun e w' => e = .returned (.bool true) ∧ Ext w w' := by
  go_enter Try.func7, Try.ntmps7
  go_upto_region 3 with (go_at_call 13; (with_reducible refine (shown_any _).mono ?_); rintro e w1 ⟨rfl, x1⟩)
  have v1 := (((Ext.refl w).alloc (.cells #[.int .u8 n0, .int .u8 n1, .int .u8 n2, .int .u8 n3, .int .u8 n4] 22)).alloc (.cells #[.int .u32 Wn] 23)).alloc (.cells #[.slice Y m d] 24) |>.trans x1
  have K9 : w1.heap[w.heap.size + 1 + 1]? = some (.cells #[.slice Y m d] 24 (0, 0)) := (x1.block _ (by simp)).trans (blk_new (by simp))
  have K8 : w1.heap[w.heap.size + 1]? = some (.cells #[.int .u32 Wn] 23 (0, 0)) := (x1.block _ (by simp)).trans (((Ext.refl _).alloc (.cells #[.slice Y m d] 24)).block _ (by simp) |>.trans (blk_new (by simp)))
  have K7 : w1.heap[w.heap.size]? = some (.cells #[.int .u8 n0, .int .u8 n1, .int .u8 n2, .int .u8 n3, .int .u8 n4] 22 (0, 0)) := blk_of ((((Ext.refl _).alloc _).alloc _).trans x1)
  have hy1 := hy.ext v1
  clear x1
  generalize w.heap.size + 1 + 1 = g9 at *
  generalize w.heap.size + 1 = g8 at *
  generalize w.heap.size = g7 at *
  rcases ha : ok a with _ | _
  · have ha' := ok_no ha
    have HA := Lib.hid ha'
    clear ha ha'
    rcases hb : ok b with _ | _
    · have hb' := ok_no hb
      have HB := Lib.hid hb'
      clear hb hb'
      go_upto_region 4 with (go_at_call 17; (with_reducible refine (of_no _ 0 0 0 0 0 0 _ _ _ _ _ _ _ _ a0 a1 HA.out K9 hy1 hmd hd).mono ?_); rintro e w2 ⟨rfl, x2⟩)
      go_wp2_with (go_at_call 17; (with_reducible refine (of_no _ 0 0 0 0 0 0 _ _ _ _ _ _ _ _ b0 b1 HB.out ((x2.block _ (blk_lt K9)).trans K9) (hy1.ext x2) hmd hd).mono ?_); rintro e w3 ⟨rfl, x3⟩)
      go_ret
      exact ⟨by simp, v1.trans (x2.trans x3)⟩
    · have HB := Lib.hid hb
      clear hb
      go_upto_region 4 with (go_at_call 17; (with_reducible refine (of_no _ 0 0 0 0 0 0 _ _ _ _ _ _ _ _ a0 a1 HA.out K9 hy1 hmd hd).mono ?_); rintro e w2 ⟨rfl, x2⟩)
      go_wp2_with (go_at_call 17; (with_reducible refine (of_ok _ _ _ _ _ _ _ _ _ _ _ _ _ _ _ b0 b1 HB.out hnl W0 W1 ((x2.block _ (blk_lt K7)).trans K7) ((x2.block _ (blk_lt K8)).trans K8) ((x2.block _ (blk_lt K9)).trans K9) (hy1.ext x2) hmd hd).mono ?_); rintro e w3 ⟨A3, N3, c3, rfl, x3, r3⟩)
      go_ret
      exact ⟨by simp, v1.trans (x2.trans x3)⟩
  · have HA := Lib.hid ha
    clear ha
    rcases hb : ok b with _ | _
    · have hb' := ok_no hb
      have HB := Lib.hid hb'
      clear hb hb'
      go_upto_region 4 with (go_at_call 17; (with_reducible refine (of_ok _ _ _ _ _ _ _ _ _ _ _ _ _ _ _ a0 a1 HA.out hnl W0 W1 K7 K8 K9 hy1 hmd hd).mono ?_); rintro e w2 ⟨A2, N2, c2, rfl, x2, r2⟩)
      go_wp2_with (go_at_call 17; (with_reducible refine (of_no _ 0 0 0 0 0 0 _ _ _ _ _ _ _ _ b0 b1 HB.out ((x2.block _ (blk_lt K9)).trans K9) (hy1.ext x2) hmd hd).mono ?_); rintro e w3 ⟨rfl, x3⟩)
      go_ret
      exact ⟨by simp, v1.trans (x2.trans x3)⟩
    · have HB := Lib.hid hb
      clear hb
      go_upto_region 4 with (go_at_call 17; (with_reducible refine (of_ok _ _ _ _ _ _ _ _ _ _ _ _ _ _ _ a0 a1 HA.out hnl W0 W1 K7 K8 K9 hy1 hmd hd).mono ?_); rintro e w2 ⟨A2, N2, c2, rfl, x2, r2⟩)
      by_cases hab : a = b
      · subst hab
        go_wp2_with (go_at_call 17; (with_reducible refine (of_ok _ _ _ _ _ _ _ _ _ _ _ _ _ _ _ b0 b1 HB.out hnl W0 W1 ((x2.block _ (blk_lt K7)).trans K7) ((x2.block _ (blk_lt K8)).trans K8) ((x2.block _ (blk_lt K9)).trans K9) (hy1.ext x2) hmd hd).mono ?_); rintro e w3 ⟨A3, N3, c3, rfl, x3, r3⟩; have s1 := str (c := c2) (r2.ext x3); have s2 := str (c := c3) r3)
        go_ret
        exact ⟨by simp, v1.trans (x2.trans x3)⟩
      · have hne := str_ne (OfX_byts (Wn := Wn) a0 a1 hnl hy.byts) (OfX_byts b0 b1 hnl hy.byts) (OfX_ne (Wn := Wn) (nl := [n0, n1, n2, n3, n4]) (ys := ys) hab)
        have HN := Lib.hid (by rw [beq_toListBytes, beq_eq_false_iff_ne] at hne; exact hne)
        have habb : (a == b) = false := by simpa using hab
        clear hab
        go_wp2_with (go_at_call 17; (with_reducible refine (of_ok _ _ _ _ _ _ _ _ _ _ _ _ _ _ _ b0 b1 HB.out hnl W0 W1 ((x2.block _ (blk_lt K7)).trans K7) ((x2.block _ (blk_lt K8)).trans K8) ((x2.block _ (blk_lt K9)).trans K9) (hy1.ext x2) hmd hd).mono ?_); rintro e w3 ⟨A3, N3, c3, rfl, x3, r3⟩; have s1 := str (c := c2) (r2.ext x3); have s2 := str (c := c3) r3)
        go_ret
        exact ⟨by simp; exact HN.out, v1.trans (x2.trans x3)⟩
end Go.Proofs.Ytnfipfgbckbaeaa
