import Derived.Test.YtjcacemijnlmhaaY
set_option linter.unusedVariables false
namespace Go.Proofs.Ytjcacemijnlmhaa
open Go.RowKit
theorem str_inj : ∀ {a b : List Int} (_ : Byts a) (_ : Byts b), strOfNums a = strOfNums b → a = b := by
  intro a b ha hb h
  have h2 : a.map (fun n => UInt8.ofNat n.toNat) = b.map (fun n => UInt8.ofNat n.toNat) := by
    rw [← strOfNums_data, ← strOfNums_data, h]
  clear h
  induction a generalizing b with
  | nil => cases b with
    | nil => rfl
    | cons y b => simp at h2
  | cons x a ih => cases b with
    | nil => simp at h2
    | cons y b =>
      simp only [List.map_cons, List.cons.injEq] at h2
      have hx := ha x (by simp)
      have hy := hb y (by simp)
      have e := congrArg UInt8.toNat h2.1
      simp only [UInt8.toNat_ofNat'] at e
      rw [Nat.mod_eq_of_lt (by omega), Nat.mod_eq_of_lt (by omega)] at e
      rw [show x = y by omega, ih (fun z hz => ha z (by simp [hz])) (fun z hz => hb z (by simp [hz])) h2.2]
theorem str_ne {a b : List Int} (ha : Byts a) (hb : Byts b) (h : a ≠ b) : (strOfNums a == strOfNums b) = false := by
  rw [beq_toListBytes, beq_eq_false_iff_ne]
  intro e
  exact h (str_inj ha hb (ByteArray.ext (Array.ext' (by simpa [ByteArray.toList_eq] using e))))
theorem same_ne (k c : Int) (A : Option Addr) (n a : Nat) (bs : List Int) (k' c' : Int) (A' : Option Addr) (n' a' : Nat) (bs' : List Int) (w : World) (hr : Rd w A n bs) (hr' : Rd w A' n' bs') (hne : ¬ (k = k' ∧ c = c' ∧ bs = bs')) :
    Calls Try.prog 16 #[.agg #[.int .u8 k, .int .u8 c, .slice A n a], .agg #[.int .u8 k', .int .u8 c', .slice A' n' a']] w fun e w' => e = .returned (.bool false) ∧ Ext w w' := by
  refine (same_any k c A n a bs k' c' A' n' a' bs' w hr hr').mono fun e w' h => ⟨?_, h.2⟩
  rw [h.1]
  by_cases h1 : k = k'
  · by_cases h2 : c = c'
    · rw [str_ne hr.byts hr'.byts (fun e => hne ⟨h1, h2, e⟩)]
      simp
    · simp [h2]
  · simp [h1]
theorem rows2 {w W : World} {o1 o2 : Obj} (h : Ext ((w.alloc o1).alloc o2) W) : W.heap[w.heap.size]? = some o1 ∧ W.heap[w.heap.size + 1]? = some o2 := by
  refine ⟨blk_of (((Ext.refl _).alloc _).trans h), ?_⟩
  have := blk_of h
  simpa using this
theorem kinds_no1 (w : World) (kind code : Int) (A : Option Addr) (n c : Nat) (bs : List Int) (k0 : 0 ≤ kind) (k1 : kind < 256) (c0 : 0 ≤ code) (c1 : code < 256) (hr : Rd w A n bs) (hnc : n ≤ c) (hcm : c ≤ maxLen) (kind' code' : Int) (A' : Option Addr) (n' c' : Nat) (bs' : List Int) (k0' : 0 ≤ kind') (k1' : kind' < 256) (c0' : 0 ≤ code') (c1' : code' < 256) (hr' : Rd w A' n' bs') (hnc' : n' ≤ c') (hcm' : c' ≤ maxLen) (hm : mayR kind code (min n 20) = false) : Calls Try.prog 7 #[.agg #[.int .u8 kind, .int .u8 code, .slice A n c], .agg #[.int .u8 kind', .int .u8 code', .slice A' n' c']] w fun e w' => e = .returned (.bool true) ∧ Ext w w' := by
  have hq := hr.take (k := min n 20) (by omega)
  have hq' := hr'.take (k := min n' 20) (by omega)
  have HF := Lib.hid (fun w => few_any kind code A n c w hnc hcm)
  have HF' := Lib.hid (fun w => few_any kind' code' A' n' c' w hnc' hcm')
  generalize hmm : min n 20 = m at *
  have HM := Lib.hid hmm; clear hmm
  generalize hmm : min n' 20 = m' at *
  have HM' := Lib.hid hmm; clear hmm
  cases hm' : mayR kind' code' m'
  · go_enter Try.func7, Try.ntmps7
    go_wp2_with (first
      | (go_at_call 11; (with_reducible refine (shown_any _).mono ?_); rintro e w0 ⟨rfl, x0⟩; obtain ⟨f0, f1, f2⟩ := cells3 (rows2 x0).1; have y0 := (((Ext.refl w).alloc _).alloc _).trans x0)
          | (go_at_call 9; (with_reducible refine (HF.out _).mono ?_); rintro e wf ⟨rfl, xf⟩)
          | (go_at_call 9; (with_reducible refine (HF'.out _).mono ?_); rintro e wg ⟨rfl, xg⟩)
      | (go_at_call 8; (with_reducible refine (put_no _ _ _ _ _ _ hm).mono ?_); rintro e w1 ⟨rfl, x1⟩; have y1 := y0.trans (xf.trans x1); obtain ⟨g0, g1, g2⟩ := cells3 (rows2 (x0.trans (xf.trans x1))).2)
      | (go_at_call 8; (with_reducible refine (put_no _ _ _ _ _ _ hm').mono ?_); rintro e w2 ⟨rfl, x2⟩; have y2 := y1.trans (xg.trans x2)))
    all_goals go_ret
    all_goals exact ⟨by simp, y2⟩
  · go_enter Try.func7, Try.ntmps7
    go_wp2_with (first
      | (go_at_call 11; (with_reducible refine (shown_any _).mono ?_); rintro e w0 ⟨rfl, x0⟩; obtain ⟨f0, f1, f2⟩ := cells3 (rows2 x0).1; have y0 := (((Ext.refl w).alloc _).alloc _).trans x0)
          | (go_at_call 9; (with_reducible refine (HF.out _).mono ?_); rintro e wf ⟨rfl, xf⟩)
          | (go_at_call 9; (with_reducible refine (HF'.out _).mono ?_); rintro e wg ⟨rfl, xg⟩)
      | (go_at_call 8; (with_reducible refine (put_no _ _ _ _ _ _ hm).mono ?_); rintro e w1 ⟨rfl, x1⟩; have y1 := y0.trans (xf.trans x1); obtain ⟨g0, g1, g2⟩ := cells3 (rows2 (x0.trans (xf.trans x1))).2)
      | (go_at_call 8; (with_reducible refine (put_yes _ _ _ _ _ _ _ (hq'.ext (y1.trans xg)) c0' c1' hm').mono ?_); rintro e w2 ⟨A2, cc2, rfl, _, _, x2, r2⟩; have y2 := y1.trans (xg.trans x2)))
    all_goals go_ret
    all_goals exact ⟨by simp, y2⟩
theorem kinds_no2 (w : World) (kind code : Int) (A : Option Addr) (n c : Nat) (bs : List Int) (k0 : 0 ≤ kind) (k1 : kind < 256) (c0 : 0 ≤ code) (c1 : code < 256) (hr : Rd w A n bs) (hnc : n ≤ c) (hcm : c ≤ maxLen) (kind' code' : Int) (A' : Option Addr) (n' c' : Nat) (bs' : List Int) (k0' : 0 ≤ kind') (k1' : kind' < 256) (c0' : 0 ≤ code') (c1' : code' < 256) (hr' : Rd w A' n' bs') (hnc' : n' ≤ c') (hcm' : c' ≤ maxLen) (hm : mayR kind code (min n 20) = true) (hm' : mayR kind' code' (min n' 20) = false) : Calls Try.prog 7 #[.agg #[.int .u8 kind, .int .u8 code, .slice A n c], .agg #[.int .u8 kind', .int .u8 code', .slice A' n' c']] w fun e w' => e = .returned (.bool true) ∧ Ext w w' := by
  have hq := hr.take (k := min n 20) (by omega)
  have hq' := hr'.take (k := min n' 20) (by omega)
  have HF := Lib.hid (fun w => few_any kind code A n c w hnc hcm)
  have HF' := Lib.hid (fun w => few_any kind' code' A' n' c' w hnc' hcm')
  generalize hmm : min n 20 = m at *
  have HM := Lib.hid hmm; clear hmm
  generalize hmm : min n' 20 = m' at *
  have HM' := Lib.hid hmm; clear hmm
  go_enter Try.func7, Try.ntmps7
  go_wp2_with (first
    | (go_at_call 11; (with_reducible refine (shown_any _).mono ?_); rintro e w0 ⟨rfl, x0⟩; obtain ⟨f0, f1, f2⟩ := cells3 (rows2 x0).1; have y0 := (((Ext.refl w).alloc _).alloc _).trans x0)
        | (go_at_call 9; (with_reducible refine (HF.out _).mono ?_); rintro e wf ⟨rfl, xf⟩)
        | (go_at_call 9; (with_reducible refine (HF'.out _).mono ?_); rintro e wg ⟨rfl, xg⟩)
    | (go_at_call 8; (with_reducible refine (put_yes _ _ _ _ _ _ _ (hq.ext (y0.trans xf)) c0 c1 hm).mono ?_); rintro e w1 ⟨A1, cc1, rfl, _, _, x1, r1⟩; have y1 := y0.trans (xf.trans x1); obtain ⟨g0, g1, g2⟩ := cells3 (rows2 (x0.trans (xf.trans x1))).2)
    | (go_at_call 8; (with_reducible refine (put_no _ _ _ _ _ _ hm').mono ?_); rintro e w2 ⟨rfl, x2⟩; have y2 := y1.trans (xg.trans x2)))
  all_goals go_ret
  all_goals exact ⟨by simp, y2⟩
end Go.Proofs.Ytjcacemijnlmhaa
