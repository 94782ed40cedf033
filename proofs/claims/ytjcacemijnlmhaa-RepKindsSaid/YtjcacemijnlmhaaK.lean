import Derived.Test.YtjcacemijnlmhaaZ
set_option linter.unusedVariables false
namespace Go.Proofs.Ytjcacemijnlmhaa
open Go.RowKit
theorem put_hid (kind code : Int) (A : Option Addr) (m c : Nat) (B P : List Int) (w : World) (hq : Rd w A m B) (c0 : 0 ≤ code) (c1 : code < 256) (hm : mayR kind code m = true) (hP : putR kind code B = P) :
    ∀ W, Ext w W → Calls Try.prog 8 #[.agg #[.int .u8 kind, .int .u8 code, .slice A m c]] W fun e w' => ∃ A' c', e = .returned (.tuple #[.slice A' P.length c', .int .i64 0]) ∧ Ext W w' ∧ Rd w' A' P.length P := by
  subst hP
  intro W x
  exact (put_yes kind code A m c B W (hq.ext x) c0 c1 hm).mono fun e w' h => by obtain ⟨A', c', rfl, _, _, x, r⟩ := h; exact ⟨A', c', rfl, x, r⟩
theorem keep8 {W1 W : World} {a b : Nat} {x0 x1 x2 y0 y1 y2 : Value} {t t' : TypeId} {fr fr' : Nat × Nat} {A1 A2 : Option Addr} {n1 n2 c1 c2 : Nat} {P Q : List Int} (h : W1.heap[a]? = some (.cells #[x0, x1, x2] t fr)) (h' : W1.heap[b]? = some (.cells #[y0, y1, y2] t' fr')) (r1 : Rd W1 A1 n1 P) (r2 : Rd W1 A2 n2 Q) (x : Ext W1 W) :
    W.cell? ⟨a, 0, none⟩ = some x0 ∧ W.cell? ⟨a, 1, none⟩ = some x1 ∧ W.cell? ⟨a, 2, none⟩ = some x2 ∧ W.cell? ⟨b, 0, none⟩ = some y0 ∧ W.cell? ⟨b, 1, none⟩ = some y1 ∧ W.cell? ⟨b, 2, none⟩ = some y2 ∧ (convert 22 9 (.slice A1 n1 c1)).run Try.prog W = .ok (.string (strOfNums P)) W ∧ (convert 22 9 (.slice A2 n2 c2)).run Try.prog W = .ok (.string (strOfNums Q)) W ∧ Ext W1 W := by
  obtain ⟨f0, f1, f2⟩ := cells3 ((x.block _ (blk_lt h)).trans h)
  obtain ⟨g0, g1, g2⟩ := cells3 ((x.block _ (blk_lt h')).trans h')
  exact ⟨f0, f1, f2, g0, g1, g2, str (r1.ext x), str (r2.ext x), x⟩
theorem kinds_1 (w : World) (kind code : Int) (A : Option Addr) (n c : Nat) (bs : List Int) (k0 : 0 ≤ kind) (k1 : kind < 256) (c0 : 0 ≤ code) (c1 : code < 256) (hr : Rd w A n bs) (hnc : n ≤ c) (hcm : c ≤ maxLen) (kind' code' : Int) (A' : Option Addr) (n' c' : Nat) (bs' : List Int) (k0' : 0 ≤ kind') (k1' : kind' < 256) (c0' : 0 ≤ code') (c1' : code' < 256) (hr' : Rd w A' n' bs') (hnc' : n' ≤ c') (hcm' : c' ≤ maxLen) (hm : mayR kind code (min n 20) = true) (hm' : mayR kind' code' (min n' 20) = true) (hk : kind = 1) : Calls Try.prog 7 #[.agg #[.int .u8 kind, .int .u8 code, .slice A n c], .agg #[.int .u8 kind', .int .u8 code', .slice A' n' c']] w fun e w' => e = .returned (.bool true) ∧ Ext w w' := by
  have hq := hr.take (k := min n 20) (by omega)
  have hq' := hr'.take (k := min n' 20) (by omega)
  have HF := Lib.hid (fun w => few_any kind code A n c w hnc hcm)
  have HF' := Lib.hid (fun w => few_any kind' code' A' n' c' w hnc' hcm')
  generalize hmm : min n 20 = m at *
  have HM := Lib.hid hmm; clear hmm
  generalize hmm : min n' 20 = m' at *
  have HM' := Lib.hid hmm; clear hmm
  obtain ⟨P, hP⟩ : ∃ P, putR kind code (bs.take m) = P := ⟨_, rfl⟩
  obtain ⟨Q, hQ⟩ : ∃ Q, putR kind' code' (bs'.take m') = Q := ⟨_, rfl⟩
  have hPl := putR_len8 hm hq.len
  have hQl := putR_len8 hm' hq'.len
  rw [hP] at hPl
  rw [hQ] at hQl
  have HP := Lib.hid (put_hid kind code A m c _ P w hq c0 c1 hm hP)
  have HQ := Lib.hid (put_hid kind' code' A' m' c' _ Q w hq' c0' c1' hm' hQ)
  have hx : P.getD 0 0 = 255 := by rw [← hP]; (simp [putR, headR, hk])
  have HX := Lib.hid hx
  have L1 : Hid (0 < P.length) := Lib.hid (by omega)
  have pl : ((P.length : Int) == 0) = false := by simp; intro h; simp [h] at hPl
  have ql : ((Q.length : Int) == 0) = false := by simp; intro h; simp [h] at hQl
  have hT := TK_put hm hq.len
  have hT' := TK_put hm' hq'.len
  rw [hP] at hT
  rw [hQ] at hT'
  skip
  clear hPl hQl hx hm hm'
  by_cases hE : kind = kind' ∧ code = code' ∧ bs.take m = bs'.take m'
  · obtain ⟨rfl, rfl, hB⟩ := hE
    rw [← hB] at hq' hQ hT'
    rw [hP] at hQ
    subst hQ
    clear hT hT' hB
    have HPE := Lib.hid hP; clear hP
    subst hk
    go_enter Try.func7, Try.ntmps7
    go_wp2_with (first
        | (go_at_call 11; (with_reducible refine (shown_any _).mono ?_); rintro e w0 ⟨rfl, x0⟩; obtain ⟨f0, f1, f2⟩ := cells3 (rows2 x0).1; have y0 := (((Ext.refl w).alloc _).alloc _).trans x0)
            | (go_at_call 9; (with_reducible refine (HF.out _).mono ?_); rintro e wf ⟨rfl, xf⟩)
            | (go_at_call 9; (with_reducible refine (HF'.out _).mono ?_); rintro e wg ⟨rfl, xg⟩)
        | (go_at_call 8; (with_reducible refine (HP.out _ (y0.trans xf)).mono ?_); rintro e w1 ⟨A1, cc1, rfl, x1, r1⟩; have y1 := y0.trans (xf.trans x1); obtain ⟨g0, g1, g2⟩ := cells3 (rows2 (x0.trans (xf.trans x1))).2; obtain ⟨bb, off, rfl, hbb, hc0⟩ := r1.cell (k := 0) L1.out; rw [Nat.add_zero, HX.out] at hc0)
        | (go_at_call 8; (with_reducible refine (HQ.out _ (y1.trans xg)).mono ?_); rintro e w2 ⟨A2, cc2, rfl, x2, r2⟩; have y2 := y1.trans (xg.trans x2); have hcx := (xg.trans x2).cel hbb hc0; obtain ⟨K1, K2⟩ := rows2 (x0.trans ((xf.trans x1).trans (xg.trans x2)))))
    have r12 := r1.ext (xg.trans x2)
    go_region_held3 (fun W => W.cell? ⟨w.heap.size, 0, none⟩ = some (.int .u8 1) ∧ W.cell? ⟨w.heap.size, 1, none⟩ = some (.int .u8 code) ∧ W.cell? ⟨w.heap.size, 2, none⟩ = some (.slice A n c) ∧ W.cell? ⟨w.heap.size + 1, 0, none⟩ = some (.int .u8 1) ∧ W.cell? ⟨w.heap.size + 1, 1, none⟩ = some (.int .u8 code) ∧ W.cell? ⟨w.heap.size + 1, 2, none⟩ = some (.slice A' n' c') ∧ (convert 22 9 (.slice (some ⟨bb, off, none⟩) P.length cc1)).run Try.prog W = .ok (.string (strOfNums P)) W ∧ (convert 22 9 (.slice A2 P.length cc2)).run Try.prog W = .ok (.string (strOfNums P)) W ∧ Ext w2 W) ((refine keep8 K1 K2 r12 r2 ?_; repeat' (first | assumption | with_reducible exact Ext.refl _ | with_reducible refine Ext.drew ?_ | with_reducible refine Ext.alloc ?_ _ | with_reducible refine Ext.setCell ?_ (by simp) _))) (first
      | (go_at_call 9; (with_reducible refine (HF.out _).mono ?_); rintro e w3 ⟨rfl, x3⟩; have z3 := (Ext.refl _).drew.trans x3)
      | (go_at_call 9; (with_reducible refine (HF'.out _).mono ?_); rintro e w4 ⟨rfl, x4⟩; have z4 := z3.trans x4)
      | (go_at_call 16; (with_reducible refine ((same_self _ _ _ _ _ _ _ _ _ _ (hq.ext (y2.trans z4)) (hq'.ext (y2.trans z4)))).mono ?_); rintro e w5 ⟨rfl, x5⟩; have z5 := z4.trans x5))
    go_wp2
    go_ret
    exact ⟨by simp, y2.trans z5⟩
  · have hne : P ≠ Q := fun e => by subst e; obtain ⟨_, h1, h2, h3⟩ := TK.det hT hT'; exact hE ⟨h1, h2, h3⟩
    have hPb : Byts P := by rw [← hP]; exact putR_byts _ _ _ c0 c1 hq.byts
    have hQb : Byts Q := by rw [← hQ]; exact putR_byts _ _ _ c0' c1' hq'.byts
    have hs := str_ne hPb hQb hne
    have hs2 := hs; rw [beq_toListBytes] at hs2
    have HE := Lib.hid hE
    clear hP hQ hT hT' hne hE
    subst hk
    go_enter Try.func7, Try.ntmps7
    go_wp2_with (first
        | (go_at_call 11; (with_reducible refine (shown_any _).mono ?_); rintro e w0 ⟨rfl, x0⟩; obtain ⟨f0, f1, f2⟩ := cells3 (rows2 x0).1; have y0 := (((Ext.refl w).alloc _).alloc _).trans x0)
            | (go_at_call 9; (with_reducible refine (HF.out _).mono ?_); rintro e wf ⟨rfl, xf⟩)
            | (go_at_call 9; (with_reducible refine (HF'.out _).mono ?_); rintro e wg ⟨rfl, xg⟩)
        | (go_at_call 8; (with_reducible refine (HP.out _ (y0.trans xf)).mono ?_); rintro e w1 ⟨A1, cc1, rfl, x1, r1⟩; have y1 := y0.trans (xf.trans x1); obtain ⟨g0, g1, g2⟩ := cells3 (rows2 (x0.trans (xf.trans x1))).2; obtain ⟨bb, off, rfl, hbb, hc0⟩ := r1.cell (k := 0) L1.out; rw [Nat.add_zero, HX.out] at hc0)
        | (go_at_call 8; (with_reducible refine (HQ.out _ (y1.trans xg)).mono ?_); rintro e w2 ⟨A2, cc2, rfl, x2, r2⟩; have y2 := y1.trans (xg.trans x2); have hcx := (xg.trans x2).cel hbb hc0; obtain ⟨K1, K2⟩ := rows2 (x0.trans ((xf.trans x1).trans (xg.trans x2)))))
    have r12 := r1.ext (xg.trans x2)
    go_region_held3 (fun W => W.cell? ⟨w.heap.size, 0, none⟩ = some (.int .u8 1) ∧ W.cell? ⟨w.heap.size, 1, none⟩ = some (.int .u8 code) ∧ W.cell? ⟨w.heap.size, 2, none⟩ = some (.slice A n c) ∧ W.cell? ⟨w.heap.size + 1, 0, none⟩ = some (.int .u8 kind') ∧ W.cell? ⟨w.heap.size + 1, 1, none⟩ = some (.int .u8 code') ∧ W.cell? ⟨w.heap.size + 1, 2, none⟩ = some (.slice A' n' c') ∧ (convert 22 9 (.slice (some ⟨bb, off, none⟩) P.length cc1)).run Try.prog W = .ok (.string (strOfNums P)) W ∧ (convert 22 9 (.slice A2 Q.length cc2)).run Try.prog W = .ok (.string (strOfNums Q)) W ∧ Ext w2 W) ((refine keep8 K1 K2 r12 r2 ?_; repeat' (first | assumption | with_reducible exact Ext.refl _ | with_reducible refine Ext.drew ?_ | with_reducible refine Ext.alloc ?_ _ | with_reducible refine Ext.setCell ?_ (by simp) _))) (first
      | (go_at_call 9; (with_reducible refine (HF.out _).mono ?_); rintro e w3 ⟨rfl, x3⟩; have z3 := (Ext.refl _).drew.trans x3)
      | (go_at_call 9; (with_reducible refine (HF'.out _).mono ?_); rintro e w4 ⟨rfl, x4⟩; have z4 := z3.trans x4)
      | (go_at_call 16; (with_reducible refine ((same_ne _ _ _ _ _ _ _ _ _ _ _ _ _ (hq.ext (y2.trans z4)) (hq'.ext (y2.trans z4)) HE.out)).mono ?_); rintro e w5 ⟨rfl, x5⟩; have z5 := z4.trans x5))
    go_wp2
    go_ret
    exact ⟨by simp, y2.trans z5⟩
theorem kinds_2 (w : World) (kind code : Int) (A : Option Addr) (n c : Nat) (bs : List Int) (k0 : 0 ≤ kind) (k1 : kind < 256) (c0 : 0 ≤ code) (c1 : code < 256) (hr : Rd w A n bs) (hnc : n ≤ c) (hcm : c ≤ maxLen) (kind' code' : Int) (A' : Option Addr) (n' c' : Nat) (bs' : List Int) (k0' : 0 ≤ kind') (k1' : kind' < 256) (c0' : 0 ≤ code') (c1' : code' < 256) (hr' : Rd w A' n' bs') (hnc' : n' ≤ c') (hcm' : c' ≤ maxLen) (hm : mayR kind code (min n 20) = true) (hm' : mayR kind' code' (min n' 20) = true) (hk : kind = 2) : Calls Try.prog 7 #[.agg #[.int .u8 kind, .int .u8 code, .slice A n c], .agg #[.int .u8 kind', .int .u8 code', .slice A' n' c']] w fun e w' => e = .returned (.bool true) ∧ Ext w w' := by
  have hq := hr.take (k := min n 20) (by omega)
  have hq' := hr'.take (k := min n' 20) (by omega)
  have HF := Lib.hid (fun w => few_any kind code A n c w hnc hcm)
  have HF' := Lib.hid (fun w => few_any kind' code' A' n' c' w hnc' hcm')
  generalize hmm : min n 20 = m at *
  have HM := Lib.hid hmm; clear hmm
  generalize hmm : min n' 20 = m' at *
  have HM' := Lib.hid hmm; clear hmm
  obtain ⟨P, hP⟩ : ∃ P, putR kind code (bs.take m) = P := ⟨_, rfl⟩
  obtain ⟨Q, hQ⟩ : ∃ Q, putR kind' code' (bs'.take m') = Q := ⟨_, rfl⟩
  have hPl := putR_len8 hm hq.len
  have hQl := putR_len8 hm' hq'.len
  rw [hP] at hPl
  rw [hQ] at hQl
  have HP := Lib.hid (put_hid kind code A m c _ P w hq c0 c1 hm hP)
  have HQ := Lib.hid (put_hid kind' code' A' m' c' _ Q w hq' c0' c1' hm' hQ)
  have hx : P.getD 0 0 = 254 := by rw [← hP]; (simp [putR, headR, hk])
  have HX := Lib.hid hx
  have L1 : Hid (0 < P.length) := Lib.hid (by omega)
  have pl : ((P.length : Int) == 0) = false := by simp; intro h; simp [h] at hPl
  have ql : ((Q.length : Int) == 0) = false := by simp; intro h; simp [h] at hQl
  have hT := TK_put hm hq.len
  have hT' := TK_put hm' hq'.len
  rw [hP] at hT
  rw [hQ] at hT'
  skip
  clear hPl hQl hx hm hm'
  by_cases hE : kind = kind' ∧ code = code' ∧ bs.take m = bs'.take m'
  · obtain ⟨rfl, rfl, hB⟩ := hE
    rw [← hB] at hq' hQ hT'
    rw [hP] at hQ
    subst hQ
    clear hT hT' hB
    have HPE := Lib.hid hP; clear hP
    subst hk
    go_enter Try.func7, Try.ntmps7
    go_wp2_with (first
        | (go_at_call 11; (with_reducible refine (shown_any _).mono ?_); rintro e w0 ⟨rfl, x0⟩; obtain ⟨f0, f1, f2⟩ := cells3 (rows2 x0).1; have y0 := (((Ext.refl w).alloc _).alloc _).trans x0)
            | (go_at_call 9; (with_reducible refine (HF.out _).mono ?_); rintro e wf ⟨rfl, xf⟩)
            | (go_at_call 9; (with_reducible refine (HF'.out _).mono ?_); rintro e wg ⟨rfl, xg⟩)
        | (go_at_call 8; (with_reducible refine (HP.out _ (y0.trans xf)).mono ?_); rintro e w1 ⟨A1, cc1, rfl, x1, r1⟩; have y1 := y0.trans (xf.trans x1); obtain ⟨g0, g1, g2⟩ := cells3 (rows2 (x0.trans (xf.trans x1))).2; obtain ⟨bb, off, rfl, hbb, hc0⟩ := r1.cell (k := 0) L1.out; rw [Nat.add_zero, HX.out] at hc0)
        | (go_at_call 8; (with_reducible refine (HQ.out _ (y1.trans xg)).mono ?_); rintro e w2 ⟨A2, cc2, rfl, x2, r2⟩; have y2 := y1.trans (xg.trans x2); have hcx := (xg.trans x2).cel hbb hc0; obtain ⟨K1, K2⟩ := rows2 (x0.trans ((xf.trans x1).trans (xg.trans x2)))))
    have r12 := r1.ext (xg.trans x2)
    go_region_held3 (fun W => W.cell? ⟨w.heap.size, 0, none⟩ = some (.int .u8 2) ∧ W.cell? ⟨w.heap.size, 1, none⟩ = some (.int .u8 code) ∧ W.cell? ⟨w.heap.size, 2, none⟩ = some (.slice A n c) ∧ W.cell? ⟨w.heap.size + 1, 0, none⟩ = some (.int .u8 2) ∧ W.cell? ⟨w.heap.size + 1, 1, none⟩ = some (.int .u8 code) ∧ W.cell? ⟨w.heap.size + 1, 2, none⟩ = some (.slice A' n' c') ∧ (convert 22 9 (.slice (some ⟨bb, off, none⟩) P.length cc1)).run Try.prog W = .ok (.string (strOfNums P)) W ∧ (convert 22 9 (.slice A2 P.length cc2)).run Try.prog W = .ok (.string (strOfNums P)) W ∧ Ext w2 W) ((refine keep8 K1 K2 r12 r2 ?_; repeat' (first | assumption | with_reducible exact Ext.refl _ | with_reducible refine Ext.drew ?_ | with_reducible refine Ext.alloc ?_ _ | with_reducible refine Ext.setCell ?_ (by simp) _))) (first
      | (go_at_call 9; (with_reducible refine (HF.out _).mono ?_); rintro e w3 ⟨rfl, x3⟩; have z3 := (Ext.refl _).drew.trans x3)
      | (go_at_call 9; (with_reducible refine (HF'.out _).mono ?_); rintro e w4 ⟨rfl, x4⟩; have z4 := z3.trans x4)
      | (go_at_call 16; (with_reducible refine ((same_self _ _ _ _ _ _ _ _ _ _ (hq.ext (y2.trans z4)) (hq'.ext (y2.trans z4)))).mono ?_); rintro e w5 ⟨rfl, x5⟩; have z5 := z4.trans x5))
    go_wp2
    go_ret
    exact ⟨by simp, y2.trans z5⟩
  · have hne : P ≠ Q := fun e => by subst e; obtain ⟨_, h1, h2, h3⟩ := TK.det hT hT'; exact hE ⟨h1, h2, h3⟩
    have hPb : Byts P := by rw [← hP]; exact putR_byts _ _ _ c0 c1 hq.byts
    have hQb : Byts Q := by rw [← hQ]; exact putR_byts _ _ _ c0' c1' hq'.byts
    have hs := str_ne hPb hQb hne
    have hs2 := hs; rw [beq_toListBytes] at hs2
    have HE := Lib.hid hE
    clear hP hQ hT hT' hne hE
    subst hk
    go_enter Try.func7, Try.ntmps7
    go_wp2_with (first
        | (go_at_call 11; (with_reducible refine (shown_any _).mono ?_); rintro e w0 ⟨rfl, x0⟩; obtain ⟨f0, f1, f2⟩ := cells3 (rows2 x0).1; have y0 := (((Ext.refl w).alloc _).alloc _).trans x0)
            | (go_at_call 9; (with_reducible refine (HF.out _).mono ?_); rintro e wf ⟨rfl, xf⟩)
            | (go_at_call 9; (with_reducible refine (HF'.out _).mono ?_); rintro e wg ⟨rfl, xg⟩)
        | (go_at_call 8; (with_reducible refine (HP.out _ (y0.trans xf)).mono ?_); rintro e w1 ⟨A1, cc1, rfl, x1, r1⟩; have y1 := y0.trans (xf.trans x1); obtain ⟨g0, g1, g2⟩ := cells3 (rows2 (x0.trans (xf.trans x1))).2; obtain ⟨bb, off, rfl, hbb, hc0⟩ := r1.cell (k := 0) L1.out; rw [Nat.add_zero, HX.out] at hc0)
        | (go_at_call 8; (with_reducible refine (HQ.out _ (y1.trans xg)).mono ?_); rintro e w2 ⟨A2, cc2, rfl, x2, r2⟩; have y2 := y1.trans (xg.trans x2); have hcx := (xg.trans x2).cel hbb hc0; obtain ⟨K1, K2⟩ := rows2 (x0.trans ((xf.trans x1).trans (xg.trans x2)))))
    have r12 := r1.ext (xg.trans x2)
    go_region_held3 (fun W => W.cell? ⟨w.heap.size, 0, none⟩ = some (.int .u8 2) ∧ W.cell? ⟨w.heap.size, 1, none⟩ = some (.int .u8 code) ∧ W.cell? ⟨w.heap.size, 2, none⟩ = some (.slice A n c) ∧ W.cell? ⟨w.heap.size + 1, 0, none⟩ = some (.int .u8 kind') ∧ W.cell? ⟨w.heap.size + 1, 1, none⟩ = some (.int .u8 code') ∧ W.cell? ⟨w.heap.size + 1, 2, none⟩ = some (.slice A' n' c') ∧ (convert 22 9 (.slice (some ⟨bb, off, none⟩) P.length cc1)).run Try.prog W = .ok (.string (strOfNums P)) W ∧ (convert 22 9 (.slice A2 Q.length cc2)).run Try.prog W = .ok (.string (strOfNums Q)) W ∧ Ext w2 W) ((refine keep8 K1 K2 r12 r2 ?_; repeat' (first | assumption | with_reducible exact Ext.refl _ | with_reducible refine Ext.drew ?_ | with_reducible refine Ext.alloc ?_ _ | with_reducible refine Ext.setCell ?_ (by simp) _))) (first
      | (go_at_call 9; (with_reducible refine (HF.out _).mono ?_); rintro e w3 ⟨rfl, x3⟩; have z3 := (Ext.refl _).drew.trans x3)
      | (go_at_call 9; (with_reducible refine (HF'.out _).mono ?_); rintro e w4 ⟨rfl, x4⟩; have z4 := z3.trans x4)
      | (go_at_call 16; (with_reducible refine ((same_ne _ _ _ _ _ _ _ _ _ _ _ _ _ (hq.ext (y2.trans z4)) (hq'.ext (y2.trans z4)) HE.out)).mono ?_); rintro e w5 ⟨rfl, x5⟩; have z5 := z4.trans x5))
    go_wp2
    go_ret
    exact ⟨by simp, y2.trans z5⟩
theorem kinds_3 (w : World) (kind code : Int) (A : Option Addr) (n c : Nat) (bs : List Int) (k0 : 0 ≤ kind) (k1 : kind < 256) (c0 : 0 ≤ code) (c1 : code < 256) (hr : Rd w A n bs) (hnc : n ≤ c) (hcm : c ≤ maxLen) (kind' code' : Int) (A' : Option Addr) (n' c' : Nat) (bs' : List Int) (k0' : 0 ≤ kind') (k1' : kind' < 256) (c0' : 0 ≤ code') (c1' : code' < 256) (hr' : Rd w A' n' bs') (hnc' : n' ≤ c') (hcm' : c' ≤ maxLen) (hm : mayR kind code (min n 20) = true) (hm' : mayR kind' code' (min n' 20) = true) (hk : kind = 3) : Calls Try.prog 7 #[.agg #[.int .u8 kind, .int .u8 code, .slice A n c], .agg #[.int .u8 kind', .int .u8 code', .slice A' n' c']] w fun e w' => e = .returned (.bool true) ∧ Ext w w' := by
  have hq := hr.take (k := min n 20) (by omega)
  have hq' := hr'.take (k := min n' 20) (by omega)
  have HF := Lib.hid (fun w => few_any kind code A n c w hnc hcm)
  have HF' := Lib.hid (fun w => few_any kind' code' A' n' c' w hnc' hcm')
  generalize hmm : min n 20 = m at *
  have HM := Lib.hid hmm; clear hmm
  generalize hmm : min n' 20 = m' at *
  have HM' := Lib.hid hmm; clear hmm
  obtain ⟨P, hP⟩ : ∃ P, putR kind code (bs.take m) = P := ⟨_, rfl⟩
  obtain ⟨Q, hQ⟩ : ∃ Q, putR kind' code' (bs'.take m') = Q := ⟨_, rfl⟩
  have hPl := putR_len8 hm hq.len
  have hQl := putR_len8 hm' hq'.len
  rw [hP] at hPl
  rw [hQ] at hQl
  have HP := Lib.hid (put_hid kind code A m c _ P w hq c0 c1 hm hP)
  have HQ := Lib.hid (put_hid kind' code' A' m' c' _ Q w hq' c0' c1' hm' hQ)
  have hx : P.getD 0 0 = 253 := by rw [← hP]; (simp [putR, headR, hk])
  have HX := Lib.hid hx
  have L1 : Hid (0 < P.length) := Lib.hid (by omega)
  have pl : ((P.length : Int) == 0) = false := by simp; intro h; simp [h] at hPl
  have ql : ((Q.length : Int) == 0) = false := by simp; intro h; simp [h] at hQl
  have hT := TK_put hm hq.len
  have hT' := TK_put hm' hq'.len
  rw [hP] at hT
  rw [hQ] at hT'
  skip
  clear hPl hQl hx hm hm'
  by_cases hE : kind = kind' ∧ code = code' ∧ bs.take m = bs'.take m'
  · obtain ⟨rfl, rfl, hB⟩ := hE
    rw [← hB] at hq' hQ hT'
    rw [hP] at hQ
    subst hQ
    clear hT hT' hB
    have HPE := Lib.hid hP; clear hP
    subst hk
    go_enter Try.func7, Try.ntmps7
    go_wp2_with (first
        | (go_at_call 11; (with_reducible refine (shown_any _).mono ?_); rintro e w0 ⟨rfl, x0⟩; obtain ⟨f0, f1, f2⟩ := cells3 (rows2 x0).1; have y0 := (((Ext.refl w).alloc _).alloc _).trans x0)
            | (go_at_call 9; (with_reducible refine (HF.out _).mono ?_); rintro e wf ⟨rfl, xf⟩)
            | (go_at_call 9; (with_reducible refine (HF'.out _).mono ?_); rintro e wg ⟨rfl, xg⟩)
        | (go_at_call 8; (with_reducible refine (HP.out _ (y0.trans xf)).mono ?_); rintro e w1 ⟨A1, cc1, rfl, x1, r1⟩; have y1 := y0.trans (xf.trans x1); obtain ⟨g0, g1, g2⟩ := cells3 (rows2 (x0.trans (xf.trans x1))).2; obtain ⟨bb, off, rfl, hbb, hc0⟩ := r1.cell (k := 0) L1.out; rw [Nat.add_zero, HX.out] at hc0)
        | (go_at_call 8; (with_reducible refine (HQ.out _ (y1.trans xg)).mono ?_); rintro e w2 ⟨A2, cc2, rfl, x2, r2⟩; have y2 := y1.trans (xg.trans x2); have hcx := (xg.trans x2).cel hbb hc0; obtain ⟨K1, K2⟩ := rows2 (x0.trans ((xf.trans x1).trans (xg.trans x2)))))
    have r12 := r1.ext (xg.trans x2)
    go_region_held3 (fun W => W.cell? ⟨w.heap.size, 0, none⟩ = some (.int .u8 3) ∧ W.cell? ⟨w.heap.size, 1, none⟩ = some (.int .u8 code) ∧ W.cell? ⟨w.heap.size, 2, none⟩ = some (.slice A n c) ∧ W.cell? ⟨w.heap.size + 1, 0, none⟩ = some (.int .u8 3) ∧ W.cell? ⟨w.heap.size + 1, 1, none⟩ = some (.int .u8 code) ∧ W.cell? ⟨w.heap.size + 1, 2, none⟩ = some (.slice A' n' c') ∧ (convert 22 9 (.slice (some ⟨bb, off, none⟩) P.length cc1)).run Try.prog W = .ok (.string (strOfNums P)) W ∧ (convert 22 9 (.slice A2 P.length cc2)).run Try.prog W = .ok (.string (strOfNums P)) W ∧ Ext w2 W) ((refine keep8 K1 K2 r12 r2 ?_; repeat' (first | assumption | with_reducible exact Ext.refl _ | with_reducible refine Ext.drew ?_ | with_reducible refine Ext.alloc ?_ _ | with_reducible refine Ext.setCell ?_ (by simp) _))) (first
      | (go_at_call 9; (with_reducible refine (HF.out _).mono ?_); rintro e w3 ⟨rfl, x3⟩; have z3 := (Ext.refl _).drew.trans x3)
      | (go_at_call 9; (with_reducible refine (HF'.out _).mono ?_); rintro e w4 ⟨rfl, x4⟩; have z4 := z3.trans x4)
      | (go_at_call 16; (with_reducible refine ((same_self _ _ _ _ _ _ _ _ _ _ (hq.ext (y2.trans z4)) (hq'.ext (y2.trans z4)))).mono ?_); rintro e w5 ⟨rfl, x5⟩; have z5 := z4.trans x5))
    go_wp2
    go_ret
    exact ⟨by simp, y2.trans z5⟩
  · have hne : P ≠ Q := fun e => by subst e; obtain ⟨_, h1, h2, h3⟩ := TK.det hT hT'; exact hE ⟨h1, h2, h3⟩
    have hPb : Byts P := by rw [← hP]; exact putR_byts _ _ _ c0 c1 hq.byts
    have hQb : Byts Q := by rw [← hQ]; exact putR_byts _ _ _ c0' c1' hq'.byts
    have hs := str_ne hPb hQb hne
    have hs2 := hs; rw [beq_toListBytes] at hs2
    have HE := Lib.hid hE
    clear hP hQ hT hT' hne hE
    subst hk
    go_enter Try.func7, Try.ntmps7
    go_wp2_with (first
        | (go_at_call 11; (with_reducible refine (shown_any _).mono ?_); rintro e w0 ⟨rfl, x0⟩; obtain ⟨f0, f1, f2⟩ := cells3 (rows2 x0).1; have y0 := (((Ext.refl w).alloc _).alloc _).trans x0)
            | (go_at_call 9; (with_reducible refine (HF.out _).mono ?_); rintro e wf ⟨rfl, xf⟩)
            | (go_at_call 9; (with_reducible refine (HF'.out _).mono ?_); rintro e wg ⟨rfl, xg⟩)
        | (go_at_call 8; (with_reducible refine (HP.out _ (y0.trans xf)).mono ?_); rintro e w1 ⟨A1, cc1, rfl, x1, r1⟩; have y1 := y0.trans (xf.trans x1); obtain ⟨g0, g1, g2⟩ := cells3 (rows2 (x0.trans (xf.trans x1))).2; obtain ⟨bb, off, rfl, hbb, hc0⟩ := r1.cell (k := 0) L1.out; rw [Nat.add_zero, HX.out] at hc0)
        | (go_at_call 8; (with_reducible refine (HQ.out _ (y1.trans xg)).mono ?_); rintro e w2 ⟨A2, cc2, rfl, x2, r2⟩; have y2 := y1.trans (xg.trans x2); have hcx := (xg.trans x2).cel hbb hc0; obtain ⟨K1, K2⟩ := rows2 (x0.trans ((xf.trans x1).trans (xg.trans x2)))))
    have r12 := r1.ext (xg.trans x2)
    go_region_held3 (fun W => W.cell? ⟨w.heap.size, 0, none⟩ = some (.int .u8 3) ∧ W.cell? ⟨w.heap.size, 1, none⟩ = some (.int .u8 code) ∧ W.cell? ⟨w.heap.size, 2, none⟩ = some (.slice A n c) ∧ W.cell? ⟨w.heap.size + 1, 0, none⟩ = some (.int .u8 kind') ∧ W.cell? ⟨w.heap.size + 1, 1, none⟩ = some (.int .u8 code') ∧ W.cell? ⟨w.heap.size + 1, 2, none⟩ = some (.slice A' n' c') ∧ (convert 22 9 (.slice (some ⟨bb, off, none⟩) P.length cc1)).run Try.prog W = .ok (.string (strOfNums P)) W ∧ (convert 22 9 (.slice A2 Q.length cc2)).run Try.prog W = .ok (.string (strOfNums Q)) W ∧ Ext w2 W) ((refine keep8 K1 K2 r12 r2 ?_; repeat' (first | assumption | with_reducible exact Ext.refl _ | with_reducible refine Ext.drew ?_ | with_reducible refine Ext.alloc ?_ _ | with_reducible refine Ext.setCell ?_ (by simp) _))) (first
      | (go_at_call 9; (with_reducible refine (HF.out _).mono ?_); rintro e w3 ⟨rfl, x3⟩; have z3 := (Ext.refl _).drew.trans x3)
      | (go_at_call 9; (with_reducible refine (HF'.out _).mono ?_); rintro e w4 ⟨rfl, x4⟩; have z4 := z3.trans x4)
      | (go_at_call 16; (with_reducible refine ((same_ne _ _ _ _ _ _ _ _ _ _ _ _ _ (hq.ext (y2.trans z4)) (hq'.ext (y2.trans z4)) HE.out)).mono ?_); rintro e w5 ⟨rfl, x5⟩; have z5 := z4.trans x5))
    go_wp2
    go_ret
    exact ⟨by simp, y2.trans z5⟩
theorem kinds_4 (w : World) (kind code : Int) (A : Option Addr) (n c : Nat) (bs : List Int) (k0 : 0 ≤ kind) (k1 : kind < 256) (c0 : 0 ≤ code) (c1 : code < 256) (hr : Rd w A n bs) (hnc : n ≤ c) (hcm : c ≤ maxLen) (kind' code' : Int) (A' : Option Addr) (n' c' : Nat) (bs' : List Int) (k0' : 0 ≤ kind') (k1' : kind' < 256) (c0' : 0 ≤ code') (c1' : code' < 256) (hr' : Rd w A' n' bs') (hnc' : n' ≤ c') (hcm' : c' ≤ maxLen) (hm : mayR kind code (min n 20) = true) (hm' : mayR kind' code' (min n' 20) = true) (hk : kind = 4) : Calls Try.prog 7 #[.agg #[.int .u8 kind, .int .u8 code, .slice A n c], .agg #[.int .u8 kind', .int .u8 code', .slice A' n' c']] w fun e w' => e = .returned (.bool true) ∧ Ext w w' := by
  have hq := hr.take (k := min n 20) (by omega)
  have hq' := hr'.take (k := min n' 20) (by omega)
  have HF := Lib.hid (fun w => few_any kind code A n c w hnc hcm)
  have HF' := Lib.hid (fun w => few_any kind' code' A' n' c' w hnc' hcm')
  generalize hmm : min n 20 = m at *
  have HM := Lib.hid hmm; clear hmm
  generalize hmm : min n' 20 = m' at *
  have HM' := Lib.hid hmm; clear hmm
  obtain ⟨P, hP⟩ : ∃ P, putR kind code (bs.take m) = P := ⟨_, rfl⟩
  obtain ⟨Q, hQ⟩ : ∃ Q, putR kind' code' (bs'.take m') = Q := ⟨_, rfl⟩
  have hPl := putR_len8 hm hq.len
  have hQl := putR_len8 hm' hq'.len
  rw [hP] at hPl
  rw [hQ] at hQl
  have HP := Lib.hid (put_hid kind code A m c _ P w hq c0 c1 hm hP)
  have HQ := Lib.hid (put_hid kind' code' A' m' c' _ Q w hq' c0' c1' hm' hQ)
  have hx : P.getD 0 0 = code := by rw [← hP]; (simp [putR, headR, hk])
  have HX := Lib.hid hx
  have L1 : Hid (0 < P.length) := Lib.hid (by omega)
  have pl : ((P.length : Int) == 0) = false := by simp; intro h; simp [h] at hPl
  have ql : ((Q.length : Int) == 0) = false := by simp; intro h; simp [h] at hQl
  have hT := TK_put hm hq.len
  have hT' := TK_put hm' hq'.len
  rw [hP] at hT
  rw [hQ] at hT'
  (have q0 : code ≤ 191 := (by simp [mayR, hk] at hm; omega); have q1 : (code == 255) = false := (by simp; omega); have q2 : (code == 254) = false := (by simp; omega); have q3 : (code == 253) = false := (by simp; omega))
  clear hPl hQl hx hm hm'
  by_cases hE : kind = kind' ∧ code = code' ∧ bs.take m = bs'.take m'
  · obtain ⟨rfl, rfl, hB⟩ := hE
    rw [← hB] at hq' hQ hT'
    rw [hP] at hQ
    subst hQ
    clear hT hT' hB
    have HPE := Lib.hid hP; clear hP
    subst hk
    go_enter Try.func7, Try.ntmps7
    go_wp2_with (first
        | (go_at_call 11; (with_reducible refine (shown_any _).mono ?_); rintro e w0 ⟨rfl, x0⟩; obtain ⟨f0, f1, f2⟩ := cells3 (rows2 x0).1; have y0 := (((Ext.refl w).alloc _).alloc _).trans x0)
            | (go_at_call 9; (with_reducible refine (HF.out _).mono ?_); rintro e wf ⟨rfl, xf⟩)
            | (go_at_call 9; (with_reducible refine (HF'.out _).mono ?_); rintro e wg ⟨rfl, xg⟩)
        | (go_at_call 8; (with_reducible refine (HP.out _ (y0.trans xf)).mono ?_); rintro e w1 ⟨A1, cc1, rfl, x1, r1⟩; have y1 := y0.trans (xf.trans x1); obtain ⟨g0, g1, g2⟩ := cells3 (rows2 (x0.trans (xf.trans x1))).2; obtain ⟨bb, off, rfl, hbb, hc0⟩ := r1.cell (k := 0) L1.out; rw [Nat.add_zero, HX.out] at hc0)
        | (go_at_call 8; (with_reducible refine (HQ.out _ (y1.trans xg)).mono ?_); rintro e w2 ⟨A2, cc2, rfl, x2, r2⟩; have y2 := y1.trans (xg.trans x2); have hcx := (xg.trans x2).cel hbb hc0; obtain ⟨K1, K2⟩ := rows2 (x0.trans ((xf.trans x1).trans (xg.trans x2)))))
    have r12 := r1.ext (xg.trans x2)
    go_region_held3 (fun W => W.cell? ⟨w.heap.size, 0, none⟩ = some (.int .u8 4) ∧ W.cell? ⟨w.heap.size, 1, none⟩ = some (.int .u8 code) ∧ W.cell? ⟨w.heap.size, 2, none⟩ = some (.slice A n c) ∧ W.cell? ⟨w.heap.size + 1, 0, none⟩ = some (.int .u8 4) ∧ W.cell? ⟨w.heap.size + 1, 1, none⟩ = some (.int .u8 code) ∧ W.cell? ⟨w.heap.size + 1, 2, none⟩ = some (.slice A' n' c') ∧ (convert 22 9 (.slice (some ⟨bb, off, none⟩) P.length cc1)).run Try.prog W = .ok (.string (strOfNums P)) W ∧ (convert 22 9 (.slice A2 P.length cc2)).run Try.prog W = .ok (.string (strOfNums P)) W ∧ Ext w2 W) ((refine keep8 K1 K2 r12 r2 ?_; repeat' (first | assumption | with_reducible exact Ext.refl _ | with_reducible refine Ext.drew ?_ | with_reducible refine Ext.alloc ?_ _ | with_reducible refine Ext.setCell ?_ (by simp) _))) (first
      | (go_at_call 9; (with_reducible refine (HF.out _).mono ?_); rintro e w3 ⟨rfl, x3⟩; have z3 := (Ext.refl _).drew.trans x3)
      | (go_at_call 9; (with_reducible refine (HF'.out _).mono ?_); rintro e w4 ⟨rfl, x4⟩; have z4 := z3.trans x4)
      | (go_at_call 16; (with_reducible refine ((same_self _ _ _ _ _ _ _ _ _ _ (hq.ext (y2.trans z4)) (hq'.ext (y2.trans z4)))).mono ?_); rintro e w5 ⟨rfl, x5⟩; have z5 := z4.trans x5))
    go_wp2
    go_ret
    exact ⟨by simp, y2.trans z5⟩
  · have hne : P ≠ Q := fun e => by subst e; obtain ⟨_, h1, h2, h3⟩ := TK.det hT hT'; exact hE ⟨h1, h2, h3⟩
    have hPb : Byts P := by rw [← hP]; exact putR_byts _ _ _ c0 c1 hq.byts
    have hQb : Byts Q := by rw [← hQ]; exact putR_byts _ _ _ c0' c1' hq'.byts
    have hs := str_ne hPb hQb hne
    have hs2 := hs; rw [beq_toListBytes] at hs2
    have HE := Lib.hid hE
    clear hP hQ hT hT' hne hE
    subst hk
    go_enter Try.func7, Try.ntmps7
    go_wp2_with (first
        | (go_at_call 11; (with_reducible refine (shown_any _).mono ?_); rintro e w0 ⟨rfl, x0⟩; obtain ⟨f0, f1, f2⟩ := cells3 (rows2 x0).1; have y0 := (((Ext.refl w).alloc _).alloc _).trans x0)
            | (go_at_call 9; (with_reducible refine (HF.out _).mono ?_); rintro e wf ⟨rfl, xf⟩)
            | (go_at_call 9; (with_reducible refine (HF'.out _).mono ?_); rintro e wg ⟨rfl, xg⟩)
        | (go_at_call 8; (with_reducible refine (HP.out _ (y0.trans xf)).mono ?_); rintro e w1 ⟨A1, cc1, rfl, x1, r1⟩; have y1 := y0.trans (xf.trans x1); obtain ⟨g0, g1, g2⟩ := cells3 (rows2 (x0.trans (xf.trans x1))).2; obtain ⟨bb, off, rfl, hbb, hc0⟩ := r1.cell (k := 0) L1.out; rw [Nat.add_zero, HX.out] at hc0)
        | (go_at_call 8; (with_reducible refine (HQ.out _ (y1.trans xg)).mono ?_); rintro e w2 ⟨A2, cc2, rfl, x2, r2⟩; have y2 := y1.trans (xg.trans x2); have hcx := (xg.trans x2).cel hbb hc0; obtain ⟨K1, K2⟩ := rows2 (x0.trans ((xf.trans x1).trans (xg.trans x2)))))
    have r12 := r1.ext (xg.trans x2)
    go_region_held3 (fun W => W.cell? ⟨w.heap.size, 0, none⟩ = some (.int .u8 4) ∧ W.cell? ⟨w.heap.size, 1, none⟩ = some (.int .u8 code) ∧ W.cell? ⟨w.heap.size, 2, none⟩ = some (.slice A n c) ∧ W.cell? ⟨w.heap.size + 1, 0, none⟩ = some (.int .u8 kind') ∧ W.cell? ⟨w.heap.size + 1, 1, none⟩ = some (.int .u8 code') ∧ W.cell? ⟨w.heap.size + 1, 2, none⟩ = some (.slice A' n' c') ∧ (convert 22 9 (.slice (some ⟨bb, off, none⟩) P.length cc1)).run Try.prog W = .ok (.string (strOfNums P)) W ∧ (convert 22 9 (.slice A2 Q.length cc2)).run Try.prog W = .ok (.string (strOfNums Q)) W ∧ Ext w2 W) ((refine keep8 K1 K2 r12 r2 ?_; repeat' (first | assumption | with_reducible exact Ext.refl _ | with_reducible refine Ext.drew ?_ | with_reducible refine Ext.alloc ?_ _ | with_reducible refine Ext.setCell ?_ (by simp) _))) (first
      | (go_at_call 9; (with_reducible refine (HF.out _).mono ?_); rintro e w3 ⟨rfl, x3⟩; have z3 := (Ext.refl _).drew.trans x3)
      | (go_at_call 9; (with_reducible refine (HF'.out _).mono ?_); rintro e w4 ⟨rfl, x4⟩; have z4 := z3.trans x4)
      | (go_at_call 16; (with_reducible refine ((same_ne _ _ _ _ _ _ _ _ _ _ _ _ _ (hq.ext (y2.trans z4)) (hq'.ext (y2.trans z4)) HE.out)).mono ?_); rintro e w5 ⟨rfl, x5⟩; have z5 := z4.trans x5))
    go_wp2
    go_ret
    exact ⟨by simp, y2.trans z5⟩
theorem RepKinds_law (w : World) (kind code : Int) (A : Option Addr) (n c : Nat) (bs : List Int) (k0 : 0 ≤ kind) (k1 : kind < 256) (c0 : 0 ≤ code) (c1 : code < 256) (hr : Rd w A n bs) (hnc : n ≤ c) (hcm : c ≤ maxLen) (kind' code' : Int) (A' : Option Addr) (n' c' : Nat) (bs' : List Int) (k0' : 0 ≤ kind') (k1' : kind' < 256) (c0' : 0 ≤ code') (c1' : code' < 256) (hr' : Rd w A' n' bs') (hnc' : n' ≤ c') (hcm' : c' ≤ maxLen) : Calls Try.prog 7 #[.agg #[.int .u8 kind, .int .u8 code, .slice A n c], .agg #[.int .u8 kind', .int .u8 code', .slice A' n' c']] w fun e w' => e = .returned (.bool true) ∧ Ext w w' := by
  cases hm : mayR kind code (min n 20)
  · exact kinds_no1 w kind code A n c bs k0 k1 c0 c1 hr hnc hcm kind' code' A' n' c' bs' k0' k1' c0' c1' hr' hnc' hcm' hm
  cases hm' : mayR kind' code' (min n' 20)
  · exact kinds_no2 w kind code A n c bs k0 k1 c0 c1 hr hnc hcm kind' code' A' n' c' bs' k0' k1' c0' c1' hr' hnc' hcm' hm hm'
  rcases kinds kind with h | h | h | h | ⟨h1, h2, h3, h4⟩
  · exact kinds_1 w kind code A n c bs k0 k1 c0 c1 hr hnc hcm kind' code' A' n' c' bs' k0' k1' c0' c1' hr' hnc' hcm' hm hm' h
  · exact kinds_2 w kind code A n c bs k0 k1 c0 c1 hr hnc hcm kind' code' A' n' c' bs' k0' k1' c0' c1' hr' hnc' hcm' hm hm' h
  · exact kinds_3 w kind code A n c bs k0 k1 c0 c1 hr hnc hcm kind' code' A' n' c' bs' k0' k1' c0' c1' hr' hnc' hcm' hm hm' h
  · exact kinds_4 w kind code A n c bs k0 k1 c0 c1 hr hnc hcm kind' code' A' n' c' bs' k0' k1' c0' c1' hr' hnc' hcm' hm hm' h
  · simp [mayR] at hm
    simp_all
end Go.Proofs.Ytjcacemijnlmhaa
