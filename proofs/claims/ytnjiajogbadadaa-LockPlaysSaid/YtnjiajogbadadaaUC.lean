import Derived.Test.YtnjiajogbadadaaUB
import Derived.Test.YtnjiajogbadadaaOwnS
set_option linter.unusedVariables false
set_option linter.unusedSimpArgs false
namespace Go.Proofs.Ytnjiajogbadadaa
open Go.RowKit
theorem back0 {w : World} {base : Nat} {v : Value} {m : Nat} {L : List Int} (h : w.ownsRow base 5 1 v (0 + m) ((#[] : Array Value).toList ++ u8s L)) (hb : Byts L) :
    ∃ A c, v = .slice A m c ∧ m ≤ c ∧ c ≤ maxLen ∧ Rd w A m L ∧ ∀ ad, A = some ad → base ≤ ad.block := by
  have h' : w.ownsRow base 5 1 v m (u8s L) := by simpa [u8s] using h
  exact own_rdF h' hb
theorem eqn_none (n c : Nat) (W : World) : (binOp .eql 29 (.slice none n c) (.slice none 0 0)).run Try.prog W = .ok (.bool true) W := by kernel_rfl
theorem eqn_some (ad : Addr) (n c : Nat) (W : World) : (binOp .eql 29 (.slice (some ad) n c) (.slice none 0 0)).run Try.prog W = .ok (.bool false) W := by kernel_rfl
theorem rseed_else (g : Nat) (s : LSt) (F : Nat → Prop) (mode res : Int) (dA : Option Addr) (n c : Nat) (w : World) (h : RkC w g s F) (h0 : mode ≠ 0) (h1 : mode ≠ 1) :
    Calls Try.prog 13 #[.pointer (some ⟨g, 0, none⟩), .int .u8 mode, .int .u8 res, .slice dA n c] w (RSeedPost w g F ⟨s, 0, [], 1⟩) := by
  have FIN := Lib.hid fun w' (hx : Ext w w') => rseedPost_same (n := 0) (err := 1) h hx
  have b0 : (mode == 0) = false := by simpa using h0
  have b1 : (mode == 1) = false := by simpa using h1
  clear h h0 h1
  go_enter Try.func13, Try.ntmps13
  go_wp2
  go_ret3
  exact FIN.out _ (Ext.refl _)
theorem one_cases {r : Int} (h : oneR r = true) : r = 1 ∨ r = 4 ∨ r = 8 := by simpa [oneR, or_assoc] using h
theorem rseed_bad (g : Nat) (s : LSt) (F : Nat → Prop) (res : Int) (dA : Option Addr) (n c : Nat) (bs : List Int) (w : World) (hr : Rd w dA n bs) (hnm : n ≤ maxLen) (h : RkC w g s F) (hb : oneR res = false ∨ bs.length < 1 ∨ 20 < bs.length) :
    Calls Try.prog 13 #[.pointer (some ⟨g, 0, none⟩), .int .u8 0, .int .u8 res, .slice dA n c] w (RSeedPost w g F ⟨s, 0, [], 1⟩) := by
  rw [hr.len] at hb
  unfold maxLen at hnm
  have FIN := Lib.hid fun w' (hx : Ext w w') => rseedPost_same (n := 0) (err := 1) h hx
  clear h hr
  rcases ho : oneR res with _ | _
  · have ho' := ho
    simp [oneR] at ho'
    obtain ⟨⟨e1, e4⟩, e8⟩ := ho'
    have b1 : (res == 1) = false := by simpa using e1
    have b4 : (res == 4) = false := by simpa using e4
    have b8 : (res == 8) = false := by simpa using e8
    clear ho hb
    go_enter Try.func13, Try.ntmps13
    go_wp2
    go_ret3
    exact FIN.out _ (Ext.refl _)
  · rw [ho] at hb
    by_cases h1 : (n : Int) < 1
    · clear hb
      rcases one_cases ho with rfl | rfl | rfl
      all_goals
        clear ho
        go_enter Try.func13, Try.ntmps13
        go_wp2
        go_ret3
        exact FIN.out _ (Ext.refl _)
    · have h2 : (20 : Int) < n := by simp at hb; omega
      clear hb
      rcases one_cases ho with rfl | rfl | rfl
      all_goals
        clear ho
        go_enter Try.func13, Try.ntmps13
        go_wp2
        go_ret3
        exact FIN.out _ (Ext.refl _)
theorem rseed_free (g : Nat) (s : LSt) (F : Nat → Prop) (res : Int) (dA : Option Addr) (n c : Nat) (w : World) (h1 : 1 ≤ n) (h2 : n ≤ 20) (h : RkC w g s F) (ho : oneR res = true) (hz : bits .and .u8 s.lk res = 0) :
    Calls Try.prog 13 #[.pointer (some ⟨g, 0, none⟩), .int .u8 0, .int .u8 res, .slice dA n c] w (RSeedPost w g F ⟨s.clear, 0, [], 0⟩) := by
  obtain ⟨sA, sc, kA, kc, h⟩ := h
  have hzz : (bits .and .u8 s.lk res == 0) = true := by simpa using hz
  rcases one_cases ho with rfl | rfl | rfl
  all_goals
    clear ho
    go_enter Try.func13, Try.ntmps13
    go_upto_region 7 with (go_at_call 27; (refine (rforget_any _ _ _ _ _ _ _ _ _ _ _ _ h.row).mono ?_); rintro e w2 ⟨rfl, K2, x2⟩)
    obtain ⟨f0, f1, f2, f3, f4, f5⟩ := cells6 K2
    go_wp2
    go_ret3
    have k : Kept F w w2 := .of_grown x2 (fun b e => by injection e with e; subst e; exact h.fg)
    exact ⟨none, 0, F, rfl, ⟨none, 0, none, 0, rclear_of h K2 k.size⟩, k, Rd.nil, Nat.le_refl _, by simp, fun k e => .inl e⟩
theorem rpost_of {w w1 w2 w3 w4 w5 : World} {g : Nat} {s' : LSt} {F G : Nat → Prop} {sA : Option Addr} {sc : Nat} {kA : Option Addr} {kc sn told m q d : Nat} (hR : RkR w2 g s' G sA sc kA kc)
    (hsn : sn = s'.seed.length) (ht : told = s'.told) (hm : m = partN sn told) (hq : q = told + m) (hd : d = sn - told) (x2 : Ext w1 w2) (x3 : Ext w2 w3) (x4 : Ext w3 w4) (hG : ∀ i, G i → F i ∨ w.heap.size ≤ i) (hk : Kept F w w1)
    (K4 : w4.heap[g]? = some (.cells #[.int .u8 s'.all, .int .u8 s'.lk, .slice sA sn sc, .int .u8 s'.res, .int .i64 (told : Int), .slice kA s'.key.length kc] 38 (0, 0))) (K5 : w5.heap[g]? = some (.cells #[.int .u8 s'.all, .int .u8 s'.lk, .slice sA sn sc, .int .u8 s'.res, .int .i64 (q : Int), .slice kA s'.key.length kc] 38 (0, 0))) (x5 : w4.grownBy w5 (some g))
    {A4 : Option Addr} {c4 : Nat} (r4 : Rd w4 A4 m ((s'.seed.drop told).take m)) (l4 : m ≤ c4) (m4 : c4 ≤ maxLen) (hA4 : ∀ ad, A4 = some ad → ad.block ≠ g) (hFg : F g ∨ w.heap.size ≤ g) :
    RSeedPost w g F s'.part (.returned (.tuple #[.int .i64 (d : Int), .slice A4 m c4, .int .i64 0])) w5 := by
  subst hsn ht hm hq hd
  have h4 := hR.ext (x3.trans x4)
  have k5 : Kept (· = g) w4 w5 := .of_grown x5 (fun b e => by injection e with e; exact e.symm)
  have hk2 := hk.then (x2.trans (x3.trans x4))
  have kF : Kept F w w5 := by
    rcases hFg with hg | hg
    · exact hk2.trans' (.of_grown x5 (fun b e => by injection e with e; subst e; exact hg))
    · exact hk2.trans k5 (fun i hi e => by subst e; omega)
  have r5 := r4.kept k5 (fun ad e => hA4 ad e)
  refine ⟨A4, c4, G, ?_, ⟨sA, sc, kA, kc, ⟨K5, h4.seed.kept k5 (fun ad e => (h4.fs ad e).2), h4.cap, h4.nil, h4.key.kept k5 (fun ad e => (h4.fk ad e).2), h4.fg, h4.fs, h4.fk, fun i hi => Nat.lt_of_lt_of_le (h4.lt i hi) k5.size, LSt.part_ok h4.ok⟩⟩, kF, ?_, ?_, m4, hG⟩
  · rw [part_len]; rfl
  · rw [part_len]; exact r5
  · rw [part_len]; exact l4
set_option maxHeartbeats 2000000 in
theorem rseed_next (g : Nat) (s' : LSt) (F : Nat → Prop) (res : Int) (dA : Option Addr) (n c : Nat) (w : World) (h : RkC w g s' F) :
    Calls Try.prog 13 #[.pointer (some ⟨g, 0, none⟩), .int .u8 1, .int .u8 res, .slice dA n c] w (RSeedPost w g F (if s'.told = s'.seed.length then ⟨s', 0, [], 90⟩ else s'.part)) := by
  have hc := h
  have hen := eqn_none
  have hes := eqn_some
  obtain ⟨sA, sc, kA, kc, h⟩ := h
  obtain ⟨f0, f1, f2, f3, f4, f5⟩ := cells6 h.row
  have ht := h.ok.told
  have hl20 := h.ok.len
  have hnil := h.nil
  have HH := Lib.hid h
  have HC := Lib.hid hc
  clear hc
  by_cases he : s'.told = s'.seed.length
  · have b1 : ((s'.told : Int) == (s'.seed.length : Int)) = true := by rw [he]; simp
    rw [if_pos he]
    have fin := fun w' (hx : Ext w w') => rseedPost_same (n := 0) (err := 90) HC.out hx
    have FIN := Lib.hid fin
    clear he fin h
    have K := HH.out.row
    rcases sA with _ | ad
    · clear hnil
      go_enter Try.func13, Try.ntmps13
      go_upto_region 12 with (fail)
      refine wp_region_held_drew (S := Ext w) (by kernel_rfl) ((Ext.refl _).drew) (fun hHeld => ?_)
      obtain ⟨wD1, hwD⟩ : ∃ V, V = World.drew w := ⟨_, rfl⟩
      rw [← hwD]
      clear hHeld
      have zz0 : Ext w wD1 := by rw [hwD]; exact (Ext.refl _).drew
      clear hwD
      refine wpAnyH_imp (S' := Ext wD1) (fun W h => Ext.trans zz0 h) _ _ _ _ ?_
      have hHeld := Ext.refl wD1
      refine wpAnyH_take (i := 0) (oi := { dst := some 58, op := Op.move (Operand.tmp 0), type := 26, pos := "ref.go:59", after := #[], guard := none }) (v := ?vv2_12_0) rfl (by kernel_rfl) (by kernel_rfl) (by kernel_rfl) (fun _ _ _ h => h) (Or.inl ⟨by rfl, ?yy2_12_0⟩) hHeld ?_
      case yy2_12_0 => (intro W hx; go_simp; try with_reducible rfl)
      simp only [Act.put, List.setIfInBounds_toArray, List.set_cons_zero, List.set_cons_succ]
      refine wpAnyH_take (i := 1) (oi := { dst := some 59, op := Op.nilCheck (Operand.tmp 58), type := 0, pos := "ref.go:59", after := #[{ on := 0, ground := Ground.data }], guard := none }) (v := ?vv3_12_1) rfl (by kernel_rfl) (by kernel_rfl) (by kernel_rfl) (fun _ _ _ h => h) (Or.inl ⟨by rfl, ?yy3_12_1⟩) hHeld ?_
      case yy3_12_1 => (intro W hx; go_simp; try with_reducible rfl)
      simp only [Act.put, List.setIfInBounds_toArray, List.set_cons_zero, List.set_cons_succ]
      refine wpAnyH_take (i := 2) (oi := { dst := some 60, op := Op.fieldAddr 38 (Operand.tmp 59) 2, type := 0, pos := "ref.go:59", after := #[{ on := 1, ground := Ground.data }], guard := none }) (v := ?vv4_12_2) rfl (by kernel_rfl) (by kernel_rfl) (by kernel_rfl) (fun _ _ _ h => h) (Or.inl ⟨by rfl, ?yy4_12_2⟩) hHeld ?_
      case yy4_12_2 => (intro W hx; go_simp; try with_reducible rfl)
      simp only [Act.put, List.setIfInBounds_toArray, List.set_cons_zero, List.set_cons_succ]
      refine wpAnyH_take (i := 3) (oi := { dst := some 61, op := Op.load 29 (Operand.tmp 60), type := 29, pos := "ref.go:59", after := #[{ on := 2, ground := Ground.data }], guard := none }) (v := ?vv5_12_3) rfl (by kernel_rfl) (by kernel_rfl) (by kernel_rfl) (fun _ _ _ h => h) (Or.inl ⟨by rfl, ?yy5_12_3⟩) hHeld ?_
      case yy5_12_3 => (intro W hx; have hz := zz0.trans hx; obtain ⟨f0, f1, f2, f3, f4, f5⟩ := cells6 ((hz.block _ (blk_lt K)).trans K); go_simp; try with_reducible rfl)
      simp only [Act.put, List.setIfInBounds_toArray, List.set_cons_zero, List.set_cons_succ]
      refine wpAnyH_take (i := 4) (oi := { dst := some 62, op := Op.binOp BinOp.eql 29 (Operand.tmp 61) (Operand.const (Value.slice none 0 0)) 29, type := 4, pos := "ref.go:59", after := #[{ on := 3, ground := Ground.data }], guard := none }) (v := ?vv6_12_4) rfl (by kernel_rfl) (by kernel_rfl) (by kernel_rfl) (fun _ _ _ h => h) (Or.inl ⟨by rfl, ?yy6_12_4⟩) hHeld ?_
      case yy6_12_4 => (intro W hx; go_simp; try with_reducible rfl)
      simp only [Act.put, List.setIfInBounds_toArray, List.set_cons_zero, List.set_cons_succ]
      refine wpAnyH_take (i := 5) (oi := { dst := some 63, op := Op.move (Operand.tmp 62), type := 4, pos := "ref.go:59", after := #[{ on := 4, ground := Ground.data }], guard := none }) (v := ?vv7_12_5) rfl (by kernel_rfl) (by kernel_rfl) (by kernel_rfl) (fun _ _ _ h => h) (Or.inl ⟨by rfl, ?yy7_12_5⟩) hHeld ?_
      case yy7_12_5 => (intro W hx; go_simp; try with_reducible rfl)
      simp only [Act.put, List.setIfInBounds_toArray, List.set_cons_zero, List.set_cons_succ]
      refine wpAnyH_take (i := 6) (oi := { dst := some 64, op := Op.move (Operand.tmp 0), type := 26, pos := "ref.go:59", after := #[{ on := 5, ground := Ground.guard }], guard := some (5, false) }) (v := undef) rfl (by kernel_rfl) (by kernel_rfl) (by kernel_rfl) (fun _ _ _ h => h) (Or.inr ⟨by rfl, rfl⟩) hHeld ?_
      simp only [Act.put, List.setIfInBounds_toArray, List.set_cons_zero, List.set_cons_succ]
      refine wpAnyH_take (i := 7) (oi := { dst := some 65, op := Op.nilCheck (Operand.tmp 64), type := 0, pos := "ref.go:59", after := #[{ on := 6, ground := Ground.data }, { on := 5, ground := Ground.guard }], guard := some (5, false) }) (v := undef) rfl (by kernel_rfl) (by kernel_rfl) (by kernel_rfl) (fun _ _ _ h => h) (Or.inr ⟨by rfl, rfl⟩) hHeld ?_
      simp only [Act.put, List.setIfInBounds_toArray, List.set_cons_zero, List.set_cons_succ]
      refine wpAnyH_take (i := 8) (oi := { dst := some 66, op := Op.fieldAddr 38 (Operand.tmp 65) 4, type := 0, pos := "ref.go:59", after := #[{ on := 7, ground := Ground.data }, { on := 5, ground := Ground.guard }], guard := some (5, false) }) (v := undef) rfl (by kernel_rfl) (by kernel_rfl) (by kernel_rfl) (fun _ _ _ h => h) (Or.inr ⟨by rfl, rfl⟩) hHeld ?_
      simp only [Act.put, List.setIfInBounds_toArray, List.set_cons_zero, List.set_cons_succ]
      refine wpAnyH_take (i := 9) (oi := { dst := some 67, op := Op.load 3 (Operand.tmp 66), type := 3, pos := "ref.go:59", after := #[{ on := 8, ground := Ground.data }, { on := 5, ground := Ground.guard }], guard := some (5, false) }) (v := undef) rfl (by kernel_rfl) (by kernel_rfl) (by kernel_rfl) (fun _ _ _ h => h) (Or.inr ⟨by rfl, rfl⟩) hHeld ?_
      simp only [Act.put, List.setIfInBounds_toArray, List.set_cons_zero, List.set_cons_succ]
      refine wpAnyH_take (i := 10) (oi := { dst := some 68, op := Op.move (Operand.tmp 0), type := 26, pos := "ref.go:59", after := #[{ on := 5, ground := Ground.guard }], guard := some (5, false) }) (v := undef) rfl (by kernel_rfl) (by kernel_rfl) (by kernel_rfl) (fun _ _ _ h => h) (Or.inr ⟨by rfl, rfl⟩) hHeld ?_
      simp only [Act.put, List.setIfInBounds_toArray, List.set_cons_zero, List.set_cons_succ]
      refine wpAnyH_take (i := 11) (oi := { dst := some 69, op := Op.nilCheck (Operand.tmp 68), type := 0, pos := "ref.go:59", after := #[{ on := 10, ground := Ground.data }, { on := 5, ground := Ground.guard }], guard := some (5, false) }) (v := undef) rfl (by kernel_rfl) (by kernel_rfl) (by kernel_rfl) (fun _ _ _ h => h) (Or.inr ⟨by rfl, rfl⟩) hHeld ?_
      simp only [Act.put, List.setIfInBounds_toArray, List.set_cons_zero, List.set_cons_succ]
      refine wpAnyH_take (i := 12) (oi := { dst := some 70, op := Op.fieldAddr 38 (Operand.tmp 69) 2, type := 0, pos := "ref.go:59", after := #[{ on := 11, ground := Ground.data }, { on := 5, ground := Ground.guard }], guard := some (5, false) }) (v := undef) rfl (by kernel_rfl) (by kernel_rfl) (by kernel_rfl) (fun _ _ _ h => h) (Or.inr ⟨by rfl, rfl⟩) hHeld ?_
      simp only [Act.put, List.setIfInBounds_toArray, List.set_cons_zero, List.set_cons_succ]
      refine wpAnyH_take (i := 13) (oi := { dst := some 71, op := Op.load 29 (Operand.tmp 70), type := 29, pos := "ref.go:59", after := #[{ on := 12, ground := Ground.data }, { on := 5, ground := Ground.guard }], guard := some (5, false) }) (v := undef) rfl (by kernel_rfl) (by kernel_rfl) (by kernel_rfl) (fun _ _ _ h => h) (Or.inr ⟨by rfl, rfl⟩) hHeld ?_
      simp only [Act.put, List.setIfInBounds_toArray, List.set_cons_zero, List.set_cons_succ]
      refine wpAnyH_take (i := 14) (oi := { dst := some 72, op := Op.call { callee := Callee.builtin Builtin.len, args := #[Operand.tmp 71], argTypes := #[29] }, type := 3, pos := "ref.go:59", after := #[{ on := 13, ground := Ground.data }, { on := 5, ground := Ground.guard }], guard := some (5, false) }) (v := undef) rfl (by kernel_rfl) (by kernel_rfl) (by kernel_rfl) (fun _ _ _ h => h) (Or.inr ⟨by rfl, rfl⟩) hHeld ?_
      simp only [Act.put, List.setIfInBounds_toArray, List.set_cons_zero, List.set_cons_succ]
      refine wpAnyH_take (i := 15) (oi := { dst := some 73, op := Op.binOp BinOp.eql 3 (Operand.tmp 67) (Operand.tmp 72) 3, type := 4, pos := "ref.go:59", after := #[{ on := 9, ground := Ground.data }, { on := 14, ground := Ground.data }, { on := 5, ground := Ground.guard }], guard := some (5, false) }) (v := undef) rfl (by kernel_rfl) (by kernel_rfl) (by kernel_rfl) (fun _ _ _ h => h) (Or.inr ⟨by rfl, rfl⟩) hHeld ?_
      simp only [Act.put, List.setIfInBounds_toArray, List.set_cons_zero, List.set_cons_succ]
      refine wpAnyH_take (i := 16) (oi := { dst := some 74, op := Op.pick (Operand.tmp 63) (Operand.const (Value.bool true)) (Operand.tmp 73), type := 4, pos := "ref.go:59", after := #[{ on := 5, ground := Ground.data }, { on := 15, ground := Ground.data }], guard := none }) (v := ?vv8_12_16) rfl (by kernel_rfl) (by kernel_rfl) (by kernel_rfl) (fun _ _ _ h => h) (Or.inl ⟨by rfl, ?yy8_12_16⟩) hHeld ?_
      case yy8_12_16 => (intro W hx; go_simp; try with_reducible rfl)
      simp only [Act.put, List.setIfInBounds_toArray, List.set_cons_zero, List.set_cons_succ]
      refine wpAnyH_done (by kernel_rfl) ?_ _
      have zend := zz0.trans hHeld
      go_wp2
      go_ret3
      exact FIN.out _ zend
    · clear hnil
      go_enter Try.func13, Try.ntmps13
      go_upto_region 12 with (fail)
      refine wp_region_held_drew (S := Ext w) (by kernel_rfl) ((Ext.refl _).drew) (fun hHeld => ?_)
      obtain ⟨wD9, hwD⟩ : ∃ V, V = World.drew w := ⟨_, rfl⟩
      rw [← hwD]
      clear hHeld
      have zz0 : Ext w wD9 := by rw [hwD]; exact (Ext.refl _).drew
      clear hwD
      refine wpAnyH_imp (S' := Ext wD9) (fun W h => Ext.trans zz0 h) _ _ _ _ ?_
      have hHeld := Ext.refl wD9
      refine wpAnyH_take (i := 0) (oi := { dst := some 58, op := Op.move (Operand.tmp 0), type := 26, pos := "ref.go:59", after := #[], guard := none }) (v := ?vv10_12_0) rfl (by kernel_rfl) (by kernel_rfl) (by kernel_rfl) (fun _ _ _ h => h) (Or.inl ⟨by rfl, ?yy10_12_0⟩) hHeld ?_
      case yy10_12_0 => (intro W hx; go_simp; try with_reducible rfl)
      simp only [Act.put, List.setIfInBounds_toArray, List.set_cons_zero, List.set_cons_succ]
      refine wpAnyH_take (i := 1) (oi := { dst := some 59, op := Op.nilCheck (Operand.tmp 58), type := 0, pos := "ref.go:59", after := #[{ on := 0, ground := Ground.data }], guard := none }) (v := ?vv11_12_1) rfl (by kernel_rfl) (by kernel_rfl) (by kernel_rfl) (fun _ _ _ h => h) (Or.inl ⟨by rfl, ?yy11_12_1⟩) hHeld ?_
      case yy11_12_1 => (intro W hx; go_simp; try with_reducible rfl)
      simp only [Act.put, List.setIfInBounds_toArray, List.set_cons_zero, List.set_cons_succ]
      refine wpAnyH_take (i := 2) (oi := { dst := some 60, op := Op.fieldAddr 38 (Operand.tmp 59) 2, type := 0, pos := "ref.go:59", after := #[{ on := 1, ground := Ground.data }], guard := none }) (v := ?vv12_12_2) rfl (by kernel_rfl) (by kernel_rfl) (by kernel_rfl) (fun _ _ _ h => h) (Or.inl ⟨by rfl, ?yy12_12_2⟩) hHeld ?_
      case yy12_12_2 => (intro W hx; go_simp; try with_reducible rfl)
      simp only [Act.put, List.setIfInBounds_toArray, List.set_cons_zero, List.set_cons_succ]
      refine wpAnyH_take (i := 3) (oi := { dst := some 61, op := Op.load 29 (Operand.tmp 60), type := 29, pos := "ref.go:59", after := #[{ on := 2, ground := Ground.data }], guard := none }) (v := ?vv13_12_3) rfl (by kernel_rfl) (by kernel_rfl) (by kernel_rfl) (fun _ _ _ h => h) (Or.inl ⟨by rfl, ?yy13_12_3⟩) hHeld ?_
      case yy13_12_3 => (intro W hx; have hz := zz0.trans hx; obtain ⟨f0, f1, f2, f3, f4, f5⟩ := cells6 ((hz.block _ (blk_lt K)).trans K); go_simp; try with_reducible rfl)
      simp only [Act.put, List.setIfInBounds_toArray, List.set_cons_zero, List.set_cons_succ]
      refine wpAnyH_take (i := 4) (oi := { dst := some 62, op := Op.binOp BinOp.eql 29 (Operand.tmp 61) (Operand.const (Value.slice none 0 0)) 29, type := 4, pos := "ref.go:59", after := #[{ on := 3, ground := Ground.data }], guard := none }) (v := ?vv14_12_4) rfl (by kernel_rfl) (by kernel_rfl) (by kernel_rfl) (fun _ _ _ h => h) (Or.inl ⟨by rfl, ?yy14_12_4⟩) hHeld ?_
      case yy14_12_4 => (intro W hx; go_simp; try with_reducible rfl)
      simp only [Act.put, List.setIfInBounds_toArray, List.set_cons_zero, List.set_cons_succ]
      refine wpAnyH_take (i := 5) (oi := { dst := some 63, op := Op.move (Operand.tmp 62), type := 4, pos := "ref.go:59", after := #[{ on := 4, ground := Ground.data }], guard := none }) (v := ?vv15_12_5) rfl (by kernel_rfl) (by kernel_rfl) (by kernel_rfl) (fun _ _ _ h => h) (Or.inl ⟨by rfl, ?yy15_12_5⟩) hHeld ?_
      case yy15_12_5 => (intro W hx; go_simp; try with_reducible rfl)
      simp only [Act.put, List.setIfInBounds_toArray, List.set_cons_zero, List.set_cons_succ]
      refine wpAnyH_take (i := 6) (oi := { dst := some 64, op := Op.move (Operand.tmp 0), type := 26, pos := "ref.go:59", after := #[{ on := 5, ground := Ground.guard }], guard := some (5, false) }) (v := ?vv16_12_6) rfl (by kernel_rfl) (by kernel_rfl) (by kernel_rfl) (fun _ _ _ h => h) (Or.inl ⟨by rfl, ?yy16_12_6⟩) hHeld ?_
      case yy16_12_6 => (intro W hx; go_simp; try with_reducible rfl)
      simp only [Act.put, List.setIfInBounds_toArray, List.set_cons_zero, List.set_cons_succ]
      refine wpAnyH_take (i := 7) (oi := { dst := some 65, op := Op.nilCheck (Operand.tmp 64), type := 0, pos := "ref.go:59", after := #[{ on := 6, ground := Ground.data }, { on := 5, ground := Ground.guard }], guard := some (5, false) }) (v := ?vv17_12_7) rfl (by kernel_rfl) (by kernel_rfl) (by kernel_rfl) (fun _ _ _ h => h) (Or.inl ⟨by rfl, ?yy17_12_7⟩) hHeld ?_
      case yy17_12_7 => (intro W hx; go_simp; try with_reducible rfl)
      simp only [Act.put, List.setIfInBounds_toArray, List.set_cons_zero, List.set_cons_succ]
      refine wpAnyH_take (i := 8) (oi := { dst := some 66, op := Op.fieldAddr 38 (Operand.tmp 65) 4, type := 0, pos := "ref.go:59", after := #[{ on := 7, ground := Ground.data }, { on := 5, ground := Ground.guard }], guard := some (5, false) }) (v := ?vv18_12_8) rfl (by kernel_rfl) (by kernel_rfl) (by kernel_rfl) (fun _ _ _ h => h) (Or.inl ⟨by rfl, ?yy18_12_8⟩) hHeld ?_
      case yy18_12_8 => (intro W hx; go_simp; try with_reducible rfl)
      simp only [Act.put, List.setIfInBounds_toArray, List.set_cons_zero, List.set_cons_succ]
      refine wpAnyH_take (i := 9) (oi := { dst := some 67, op := Op.load 3 (Operand.tmp 66), type := 3, pos := "ref.go:59", after := #[{ on := 8, ground := Ground.data }, { on := 5, ground := Ground.guard }], guard := some (5, false) }) (v := ?vv19_12_9) rfl (by kernel_rfl) (by kernel_rfl) (by kernel_rfl) (fun _ _ _ h => h) (Or.inl ⟨by rfl, ?yy19_12_9⟩) hHeld ?_
      case yy19_12_9 => (intro W hx; have hz := zz0.trans hx; obtain ⟨f0, f1, f2, f3, f4, f5⟩ := cells6 ((hz.block _ (blk_lt K)).trans K); go_simp; try with_reducible rfl)
      simp only [Act.put, List.setIfInBounds_toArray, List.set_cons_zero, List.set_cons_succ]
      refine wpAnyH_take (i := 10) (oi := { dst := some 68, op := Op.move (Operand.tmp 0), type := 26, pos := "ref.go:59", after := #[{ on := 5, ground := Ground.guard }], guard := some (5, false) }) (v := ?vv20_12_10) rfl (by kernel_rfl) (by kernel_rfl) (by kernel_rfl) (fun _ _ _ h => h) (Or.inl ⟨by rfl, ?yy20_12_10⟩) hHeld ?_
      case yy20_12_10 => (intro W hx; go_simp; try with_reducible rfl)
      simp only [Act.put, List.setIfInBounds_toArray, List.set_cons_zero, List.set_cons_succ]
      refine wpAnyH_take (i := 11) (oi := { dst := some 69, op := Op.nilCheck (Operand.tmp 68), type := 0, pos := "ref.go:59", after := #[{ on := 10, ground := Ground.data }, { on := 5, ground := Ground.guard }], guard := some (5, false) }) (v := ?vv21_12_11) rfl (by kernel_rfl) (by kernel_rfl) (by kernel_rfl) (fun _ _ _ h => h) (Or.inl ⟨by rfl, ?yy21_12_11⟩) hHeld ?_
      case yy21_12_11 => (intro W hx; go_simp; try with_reducible rfl)
      simp only [Act.put, List.setIfInBounds_toArray, List.set_cons_zero, List.set_cons_succ]
      refine wpAnyH_take (i := 12) (oi := { dst := some 70, op := Op.fieldAddr 38 (Operand.tmp 69) 2, type := 0, pos := "ref.go:59", after := #[{ on := 11, ground := Ground.data }, { on := 5, ground := Ground.guard }], guard := some (5, false) }) (v := ?vv22_12_12) rfl (by kernel_rfl) (by kernel_rfl) (by kernel_rfl) (fun _ _ _ h => h) (Or.inl ⟨by rfl, ?yy22_12_12⟩) hHeld ?_
      case yy22_12_12 => (intro W hx; go_simp; try with_reducible rfl)
      simp only [Act.put, List.setIfInBounds_toArray, List.set_cons_zero, List.set_cons_succ]
      refine wpAnyH_take (i := 13) (oi := { dst := some 71, op := Op.load 29 (Operand.tmp 70), type := 29, pos := "ref.go:59", after := #[{ on := 12, ground := Ground.data }, { on := 5, ground := Ground.guard }], guard := some (5, false) }) (v := ?vv23_12_13) rfl (by kernel_rfl) (by kernel_rfl) (by kernel_rfl) (fun _ _ _ h => h) (Or.inl ⟨by rfl, ?yy23_12_13⟩) hHeld ?_
      case yy23_12_13 => (intro W hx; have hz := zz0.trans hx; obtain ⟨f0, f1, f2, f3, f4, f5⟩ := cells6 ((hz.block _ (blk_lt K)).trans K); go_simp; try with_reducible rfl)
      simp only [Act.put, List.setIfInBounds_toArray, List.set_cons_zero, List.set_cons_succ]
      refine wpAnyH_take (i := 14) (oi := { dst := some 72, op := Op.call { callee := Callee.builtin Builtin.len, args := #[Operand.tmp 71], argTypes := #[29] }, type := 3, pos := "ref.go:59", after := #[{ on := 13, ground := Ground.data }, { on := 5, ground := Ground.guard }], guard := some (5, false) }) (v := ?vv24_12_14) rfl (by kernel_rfl) (by kernel_rfl) (by kernel_rfl) (fun _ _ _ h => h) (Or.inl ⟨by rfl, ?yy24_12_14⟩) hHeld ?_
      case yy24_12_14 => (intro W hx; go_simp; try with_reducible rfl)
      simp only [Act.put, List.setIfInBounds_toArray, List.set_cons_zero, List.set_cons_succ]
      refine wpAnyH_take (i := 15) (oi := { dst := some 73, op := Op.binOp BinOp.eql 3 (Operand.tmp 67) (Operand.tmp 72) 3, type := 4, pos := "ref.go:59", after := #[{ on := 9, ground := Ground.data }, { on := 14, ground := Ground.data }, { on := 5, ground := Ground.guard }], guard := some (5, false) }) (v := ?vv25_12_15) rfl (by kernel_rfl) (by kernel_rfl) (by kernel_rfl) (fun _ _ _ h => h) (Or.inl ⟨by rfl, ?yy25_12_15⟩) hHeld ?_
      case yy25_12_15 => (intro W hx; go_simp; try with_reducible rfl)
      simp only [Act.put, List.setIfInBounds_toArray, List.set_cons_zero, List.set_cons_succ]
      refine wpAnyH_take (i := 16) (oi := { dst := some 74, op := Op.pick (Operand.tmp 63) (Operand.const (Value.bool true)) (Operand.tmp 73), type := 4, pos := "ref.go:59", after := #[{ on := 5, ground := Ground.data }, { on := 15, ground := Ground.data }], guard := none }) (v := ?vv26_12_16) rfl (by kernel_rfl) (by kernel_rfl) (by kernel_rfl) (fun _ _ _ h => h) (Or.inl ⟨by rfl, ?yy26_12_16⟩) hHeld ?_
      case yy26_12_16 => (intro W hx; go_simp; try with_reducible rfl)
      simp only [Act.put, List.setIfInBounds_toArray, List.set_cons_zero, List.set_cons_succ]
      refine wpAnyH_done (by kernel_rfl) ?_ _
      have zend := zz0.trans hHeld
      go_wp2
      go_ret3
      exact FIN.out _ zend
  · have b1 : ((s'.told : Int) == (s'.seed.length : Int)) = false := by simp; omega
    rw [if_neg he]
    rcases sA with _ | ad
    · have := hnil.2 rfl; omega
    obtain ⟨sA, hsA⟩ : ∃ sA, Hid (sA = some ad) := ⟨_, rfl⟩
    clear he h hnil
    go_enter Try.func13, Try.ntmps13
    have K := HH.out.row
    go_upto_region 12 with (fail)
    refine wp_region_held_drew (S := Ext w) (by kernel_rfl) ((Ext.refl _).drew) (fun hHeld => ?_)
    obtain ⟨wD27, hwD⟩ : ∃ V, V = World.drew w := ⟨_, rfl⟩
    rw [← hwD]
    clear hHeld
    have zz0 : Ext w wD27 := by rw [hwD]; exact (Ext.refl _).drew
    clear hwD
    refine wpAnyH_imp (S' := Ext wD27) (fun W h => Ext.trans zz0 h) _ _ _ _ ?_
    have hHeld := Ext.refl wD27
    refine wpAnyH_take (i := 0) (oi := { dst := some 58, op := Op.move (Operand.tmp 0), type := 26, pos := "ref.go:59", after := #[], guard := none }) (v := ?vv28_12_0) rfl (by kernel_rfl) (by kernel_rfl) (by kernel_rfl) (fun _ _ _ h => h) (Or.inl ⟨by rfl, ?yy28_12_0⟩) hHeld ?_
    case yy28_12_0 => (intro W hx; go_simp; try with_reducible rfl)
    simp only [Act.put, List.setIfInBounds_toArray, List.set_cons_zero, List.set_cons_succ]
    refine wpAnyH_take (i := 1) (oi := { dst := some 59, op := Op.nilCheck (Operand.tmp 58), type := 0, pos := "ref.go:59", after := #[{ on := 0, ground := Ground.data }], guard := none }) (v := ?vv29_12_1) rfl (by kernel_rfl) (by kernel_rfl) (by kernel_rfl) (fun _ _ _ h => h) (Or.inl ⟨by rfl, ?yy29_12_1⟩) hHeld ?_
    case yy29_12_1 => (intro W hx; go_simp; try with_reducible rfl)
    simp only [Act.put, List.setIfInBounds_toArray, List.set_cons_zero, List.set_cons_succ]
    refine wpAnyH_take (i := 2) (oi := { dst := some 60, op := Op.fieldAddr 38 (Operand.tmp 59) 2, type := 0, pos := "ref.go:59", after := #[{ on := 1, ground := Ground.data }], guard := none }) (v := ?vv30_12_2) rfl (by kernel_rfl) (by kernel_rfl) (by kernel_rfl) (fun _ _ _ h => h) (Or.inl ⟨by rfl, ?yy30_12_2⟩) hHeld ?_
    case yy30_12_2 => (intro W hx; go_simp; try with_reducible rfl)
    simp only [Act.put, List.setIfInBounds_toArray, List.set_cons_zero, List.set_cons_succ]
    refine wpAnyH_take (i := 3) (oi := { dst := some 61, op := Op.load 29 (Operand.tmp 60), type := 29, pos := "ref.go:59", after := #[{ on := 2, ground := Ground.data }], guard := none }) (v := ?vv31_12_3) rfl (by kernel_rfl) (by kernel_rfl) (by kernel_rfl) (fun _ _ _ h => h) (Or.inl ⟨by rfl, ?yy31_12_3⟩) hHeld ?_
    case yy31_12_3 => (intro W hx; have hz := zz0.trans hx; obtain ⟨f0, f1, f2, f3, f4, f5⟩ := cells6 ((hz.block _ (blk_lt K)).trans K); go_simp; try with_reducible rfl)
    simp only [Act.put, List.setIfInBounds_toArray, List.set_cons_zero, List.set_cons_succ]
    refine wpAnyH_take (i := 4) (oi := { dst := some 62, op := Op.binOp BinOp.eql 29 (Operand.tmp 61) (Operand.const (Value.slice none 0 0)) 29, type := 4, pos := "ref.go:59", after := #[{ on := 3, ground := Ground.data }], guard := none }) (v := ?vv32_12_4) rfl (by kernel_rfl) (by kernel_rfl) (by kernel_rfl) (fun _ _ _ h => h) (Or.inl ⟨by rfl, ?yy32_12_4⟩) hHeld ?_
    case yy32_12_4 => (intro W hx; go_simp; try with_reducible rfl)
    simp only [Act.put, List.setIfInBounds_toArray, List.set_cons_zero, List.set_cons_succ]
    refine wpAnyH_take (i := 5) (oi := { dst := some 63, op := Op.move (Operand.tmp 62), type := 4, pos := "ref.go:59", after := #[{ on := 4, ground := Ground.data }], guard := none }) (v := ?vv33_12_5) rfl (by kernel_rfl) (by kernel_rfl) (by kernel_rfl) (fun _ _ _ h => h) (Or.inl ⟨by rfl, ?yy33_12_5⟩) hHeld ?_
    case yy33_12_5 => (intro W hx; go_simp; try with_reducible rfl)
    simp only [Act.put, List.setIfInBounds_toArray, List.set_cons_zero, List.set_cons_succ]
    refine wpAnyH_take (i := 6) (oi := { dst := some 64, op := Op.move (Operand.tmp 0), type := 26, pos := "ref.go:59", after := #[{ on := 5, ground := Ground.guard }], guard := some (5, false) }) (v := ?vv34_12_6) rfl (by kernel_rfl) (by kernel_rfl) (by kernel_rfl) (fun _ _ _ h => h) (Or.inl ⟨by rfl, ?yy34_12_6⟩) hHeld ?_
    case yy34_12_6 => (intro W hx; go_simp; try with_reducible rfl)
    simp only [Act.put, List.setIfInBounds_toArray, List.set_cons_zero, List.set_cons_succ]
    refine wpAnyH_take (i := 7) (oi := { dst := some 65, op := Op.nilCheck (Operand.tmp 64), type := 0, pos := "ref.go:59", after := #[{ on := 6, ground := Ground.data }, { on := 5, ground := Ground.guard }], guard := some (5, false) }) (v := ?vv35_12_7) rfl (by kernel_rfl) (by kernel_rfl) (by kernel_rfl) (fun _ _ _ h => h) (Or.inl ⟨by rfl, ?yy35_12_7⟩) hHeld ?_
    case yy35_12_7 => (intro W hx; go_simp; try with_reducible rfl)
    simp only [Act.put, List.setIfInBounds_toArray, List.set_cons_zero, List.set_cons_succ]
    refine wpAnyH_take (i := 8) (oi := { dst := some 66, op := Op.fieldAddr 38 (Operand.tmp 65) 4, type := 0, pos := "ref.go:59", after := #[{ on := 7, ground := Ground.data }, { on := 5, ground := Ground.guard }], guard := some (5, false) }) (v := ?vv36_12_8) rfl (by kernel_rfl) (by kernel_rfl) (by kernel_rfl) (fun _ _ _ h => h) (Or.inl ⟨by rfl, ?yy36_12_8⟩) hHeld ?_
    case yy36_12_8 => (intro W hx; go_simp; try with_reducible rfl)
    simp only [Act.put, List.setIfInBounds_toArray, List.set_cons_zero, List.set_cons_succ]
    refine wpAnyH_take (i := 9) (oi := { dst := some 67, op := Op.load 3 (Operand.tmp 66), type := 3, pos := "ref.go:59", after := #[{ on := 8, ground := Ground.data }, { on := 5, ground := Ground.guard }], guard := some (5, false) }) (v := ?vv37_12_9) rfl (by kernel_rfl) (by kernel_rfl) (by kernel_rfl) (fun _ _ _ h => h) (Or.inl ⟨by rfl, ?yy37_12_9⟩) hHeld ?_
    case yy37_12_9 => (intro W hx; have hz := zz0.trans hx; obtain ⟨f0, f1, f2, f3, f4, f5⟩ := cells6 ((hz.block _ (blk_lt K)).trans K); go_simp; try with_reducible rfl)
    simp only [Act.put, List.setIfInBounds_toArray, List.set_cons_zero, List.set_cons_succ]
    refine wpAnyH_take (i := 10) (oi := { dst := some 68, op := Op.move (Operand.tmp 0), type := 26, pos := "ref.go:59", after := #[{ on := 5, ground := Ground.guard }], guard := some (5, false) }) (v := ?vv38_12_10) rfl (by kernel_rfl) (by kernel_rfl) (by kernel_rfl) (fun _ _ _ h => h) (Or.inl ⟨by rfl, ?yy38_12_10⟩) hHeld ?_
    case yy38_12_10 => (intro W hx; go_simp; try with_reducible rfl)
    simp only [Act.put, List.setIfInBounds_toArray, List.set_cons_zero, List.set_cons_succ]
    refine wpAnyH_take (i := 11) (oi := { dst := some 69, op := Op.nilCheck (Operand.tmp 68), type := 0, pos := "ref.go:59", after := #[{ on := 10, ground := Ground.data }, { on := 5, ground := Ground.guard }], guard := some (5, false) }) (v := ?vv39_12_11) rfl (by kernel_rfl) (by kernel_rfl) (by kernel_rfl) (fun _ _ _ h => h) (Or.inl ⟨by rfl, ?yy39_12_11⟩) hHeld ?_
    case yy39_12_11 => (intro W hx; go_simp; try with_reducible rfl)
    simp only [Act.put, List.setIfInBounds_toArray, List.set_cons_zero, List.set_cons_succ]
    refine wpAnyH_take (i := 12) (oi := { dst := some 70, op := Op.fieldAddr 38 (Operand.tmp 69) 2, type := 0, pos := "ref.go:59", after := #[{ on := 11, ground := Ground.data }, { on := 5, ground := Ground.guard }], guard := some (5, false) }) (v := ?vv40_12_12) rfl (by kernel_rfl) (by kernel_rfl) (by kernel_rfl) (fun _ _ _ h => h) (Or.inl ⟨by rfl, ?yy40_12_12⟩) hHeld ?_
    case yy40_12_12 => (intro W hx; go_simp; try with_reducible rfl)
    simp only [Act.put, List.setIfInBounds_toArray, List.set_cons_zero, List.set_cons_succ]
    refine wpAnyH_take (i := 13) (oi := { dst := some 71, op := Op.load 29 (Operand.tmp 70), type := 29, pos := "ref.go:59", after := #[{ on := 12, ground := Ground.data }, { on := 5, ground := Ground.guard }], guard := some (5, false) }) (v := ?vv41_12_13) rfl (by kernel_rfl) (by kernel_rfl) (by kernel_rfl) (fun _ _ _ h => h) (Or.inl ⟨by rfl, ?yy41_12_13⟩) hHeld ?_
    case yy41_12_13 => (intro W hx; have hz := zz0.trans hx; obtain ⟨f0, f1, f2, f3, f4, f5⟩ := cells6 ((hz.block _ (blk_lt K)).trans K); go_simp; try with_reducible rfl)
    simp only [Act.put, List.setIfInBounds_toArray, List.set_cons_zero, List.set_cons_succ]
    refine wpAnyH_take (i := 14) (oi := { dst := some 72, op := Op.call { callee := Callee.builtin Builtin.len, args := #[Operand.tmp 71], argTypes := #[29] }, type := 3, pos := "ref.go:59", after := #[{ on := 13, ground := Ground.data }, { on := 5, ground := Ground.guard }], guard := some (5, false) }) (v := ?vv42_12_14) rfl (by kernel_rfl) (by kernel_rfl) (by kernel_rfl) (fun _ _ _ h => h) (Or.inl ⟨by rfl, ?yy42_12_14⟩) hHeld ?_
    case yy42_12_14 => (intro W hx; go_simp; try with_reducible rfl)
    simp only [Act.put, List.setIfInBounds_toArray, List.set_cons_zero, List.set_cons_succ]
    refine wpAnyH_take (i := 15) (oi := { dst := some 73, op := Op.binOp BinOp.eql 3 (Operand.tmp 67) (Operand.tmp 72) 3, type := 4, pos := "ref.go:59", after := #[{ on := 9, ground := Ground.data }, { on := 14, ground := Ground.data }, { on := 5, ground := Ground.guard }], guard := some (5, false) }) (v := ?vv43_12_15) rfl (by kernel_rfl) (by kernel_rfl) (by kernel_rfl) (fun _ _ _ h => h) (Or.inl ⟨by rfl, ?yy43_12_15⟩) hHeld ?_
    case yy43_12_15 => (intro W hx; go_simp; try with_reducible rfl)
    simp only [Act.put, List.setIfInBounds_toArray, List.set_cons_zero, List.set_cons_succ]
    refine wpAnyH_take (i := 16) (oi := { dst := some 74, op := Op.pick (Operand.tmp 63) (Operand.const (Value.bool true)) (Operand.tmp 73), type := 4, pos := "ref.go:59", after := #[{ on := 5, ground := Ground.data }, { on := 15, ground := Ground.data }], guard := none }) (v := ?vv44_12_16) rfl (by kernel_rfl) (by kernel_rfl) (by kernel_rfl) (fun _ _ _ h => h) (Or.inl ⟨by rfl, ?yy44_12_16⟩) hHeld ?_
    case yy44_12_16 => (intro W hx; go_simp; try with_reducible rfl)
    simp only [Act.put, List.setIfInBounds_toArray, List.set_cons_zero, List.set_cons_succ]
    refine wpAnyH_done (by kernel_rfl) ?_ _
    have zend := zz0.trans hHeld
    obtain ⟨w2, rfl⟩ : ∃ V : World, V = wD27 := ⟨_, rfl⟩
    have hR := HH.out.ext zend
    have xw2 := zend
    clear K zend hen hes
    clear f0 f1 f2 f3 f4 f5 ht hl20 b1
    rw [← hsA.out] at hR
    have ht := hR.ok.told
    have hl20 := hR.ok.len
    have HRR := Lib.hid hR
    obtain ⟨sn, hsn⟩ : ∃ sn, sn = s'.seed.length := ⟨_, rfl⟩
    obtain ⟨told, htold⟩ : ∃ t, t = s'.told := ⟨_, rfl⟩
    have K2 := hR.row
    have r2 := hR.seed
    have hcap := hR.cap
    rw [← hsn] at K2 r2 hcap ht hl20
    rw [← htold] at K2 ht
    obtain ⟨m, hm⟩ : ∃ m, m = partN sn told := ⟨_, rfl⟩
    obtain ⟨d, hd⟩ : ∃ d, d = sn - told := ⟨_, rfl⟩
    have hmin : (if (6 : Int) < d then (6 : Int) else d) = m := by rw [hm]; unfold partN; split <;> omega
    have hsub : (sn : Int) - told = d := by omega
    have hmd : m ≤ d := by rw [hm]; unfold partN; omega
    obtain ⟨q, hq⟩ : ∃ q, q = told + m := ⟨_, rfl⟩
    have hadd : (told : Int) + m = (q : Int) := by omega
    have htm : told + m ≤ sn := by omega
    have hqc : q ≤ sc := by omega
    have htq : told ≤ q := by omega
    have hqt : q - told = m := by omega
    have hq20 : q ≤ 20 := by omega
    have hwq : IntKind.i64.wrap (q : Int) = q := by rw [IntKind.wrap_i64]; omega
    have hqcI : (q : Int) ≤ sc := by omega
    have HSN := Lib.hid hsn
    have HT := Lib.hid htold
    have HM := Lib.hid hm
    have HQ := Lib.hid hq
    have HD := Lib.hid hd
    clear hsn htold hm hq hd hR
    obtain ⟨f0, f1, f2, f3, f4, f5⟩ := cells6 K2
    go_upto_region 14 with (fail)
    go_quiet (fail)
    obtain ⟨w3, hWq⟩ : ∃ z : World, z = World.drewN w2 nq := ⟨_, rfl⟩
    rw [← hWq]
    have xw3 : Ext w2 w3 := by rw [hWq]; exact (Ext.refl _).drewN _
    clear hWq
    clear f0 f1 f2 f3 f4 f5
    have K3 := (xw3.block _ (blk_lt K2)).trans K2
    have r3 := ((r2.ext xw3).drop (k := told) ht hcap).take (k := m) (by omega)
    obtain ⟨pA, hpA⟩ : ∃ p, (if sc = told then sA else Option.map (fun x => x.add told) sA) = p := ⟨_, rfl⟩
    have r3 : Rd w3 pA m ((s'.seed.drop told).take m) := by rw [← hpA]; simpa using r3
    obtain ⟨f0, f1, f2, f3, f4, f5⟩ := cells6 K3
    go_upto_region 16 with (fail)
    clear f0 f1 f2 f3 f4 f5
    refine wp_region_held_drew (S := Ext w3) (by kernel_rfl) ((Ext.refl _).drew) (fun hHeld => ?_)
    obtain ⟨wD45, hwD⟩ : ∃ V, V = World.drew w3 := ⟨_, rfl⟩
    rw [← hwD]
    clear hHeld
    have zz0 : Ext w3 wD45 := by rw [hwD]; exact (Ext.refl _).drew
    clear hwD
    refine wpAnyH_imp (S' := Ext wD45) (fun W h => Ext.trans zz0 h) _ _ _ _ ?_
    have hHeld := Ext.refl wD45
    have hB := Ext.refl wD45
    have hW := zz0
    refine wpAnyH_take (i := 1) (oi := { dst := some 88, op := Op.move (Operand.tmp 0), type := 26, pos := "ref.go:67", after := #[], guard := none }) (v := ?vv46_16_1) rfl (by kernel_rfl) (by kernel_rfl) (by kernel_rfl) (fun _ _ _ h => h) (Or.inl ⟨by rfl, ?yy46_16_1⟩) hHeld ?_
    case yy46_16_1 => (intro W hx; go_simp; try with_reducible rfl)
    simp only [Act.put, List.setIfInBounds_toArray, List.set_cons_zero, List.set_cons_succ]
    refine wpAnyH_take (i := 2) (oi := { dst := some 89, op := Op.nilCheck (Operand.tmp 88), type := 0, pos := "ref.go:67", after := #[{ on := 1, ground := Ground.data }], guard := none }) (v := ?vv47_16_2) rfl (by kernel_rfl) (by kernel_rfl) (by kernel_rfl) (fun _ _ _ h => h) (Or.inl ⟨by rfl, ?yy47_16_2⟩) hHeld ?_
    case yy47_16_2 => (intro W hx; go_simp; try with_reducible rfl)
    simp only [Act.put, List.setIfInBounds_toArray, List.set_cons_zero, List.set_cons_succ]
    refine wpAnyH_take (i := 3) (oi := { dst := some 90, op := Op.fieldAddr 38 (Operand.tmp 89) 2, type := 0, pos := "ref.go:67", after := #[{ on := 2, ground := Ground.data }], guard := none }) (v := ?vv48_16_3) rfl (by kernel_rfl) (by kernel_rfl) (by kernel_rfl) (fun _ _ _ h => h) (Or.inl ⟨by rfl, ?yy48_16_3⟩) hHeld ?_
    case yy48_16_3 => (intro W hx; go_simp; try with_reducible rfl)
    simp only [Act.put, List.setIfInBounds_toArray, List.set_cons_zero, List.set_cons_succ]
    refine wpAnyH_take (i := 4) (oi := { dst := some 91, op := Op.load 29 (Operand.tmp 90), type := 29, pos := "ref.go:67", after := #[{ on := 3, ground := Ground.data }], guard := none }) (v := ?vv49_16_4) rfl (by kernel_rfl) (by kernel_rfl) (by kernel_rfl) (fun _ _ _ h => h) (Or.inl ⟨by rfl, ?yy49_16_4⟩) hHeld ?_
    case yy49_16_4 => (intro W hx; have hz := zz0.trans hx; obtain ⟨f0, f1, f2, f3, f4, f5⟩ := cells6 ((hz.block _ (blk_lt K3)).trans K3); go_simp; try with_reducible rfl)
    simp only [Act.put, List.setIfInBounds_toArray, List.set_cons_zero, List.set_cons_succ]
    refine wpAnyH_take (i := 5) (oi := { dst := some 92, op := Op.move (Operand.tmp 0), type := 26, pos := "ref.go:67", after := #[], guard := none }) (v := ?vv50_16_5) rfl (by kernel_rfl) (by kernel_rfl) (by kernel_rfl) (fun _ _ _ h => h) (Or.inl ⟨by rfl, ?yy50_16_5⟩) hHeld ?_
    case yy50_16_5 => (intro W hx; go_simp; try with_reducible rfl)
    simp only [Act.put, List.setIfInBounds_toArray, List.set_cons_zero, List.set_cons_succ]
    refine wpAnyH_take (i := 6) (oi := { dst := some 93, op := Op.nilCheck (Operand.tmp 92), type := 0, pos := "ref.go:67", after := #[{ on := 5, ground := Ground.data }], guard := none }) (v := ?vv51_16_6) rfl (by kernel_rfl) (by kernel_rfl) (by kernel_rfl) (fun _ _ _ h => h) (Or.inl ⟨by rfl, ?yy51_16_6⟩) hHeld ?_
    case yy51_16_6 => (intro W hx; go_simp; try with_reducible rfl)
    simp only [Act.put, List.setIfInBounds_toArray, List.set_cons_zero, List.set_cons_succ]
    refine wpAnyH_take (i := 7) (oi := { dst := some 94, op := Op.fieldAddr 38 (Operand.tmp 93) 4, type := 0, pos := "ref.go:67", after := #[{ on := 6, ground := Ground.data }], guard := none }) (v := ?vv52_16_7) rfl (by kernel_rfl) (by kernel_rfl) (by kernel_rfl) (fun _ _ _ h => h) (Or.inl ⟨by rfl, ?yy52_16_7⟩) hHeld ?_
    case yy52_16_7 => (intro W hx; go_simp; try with_reducible rfl)
    simp only [Act.put, List.setIfInBounds_toArray, List.set_cons_zero, List.set_cons_succ]
    refine wpAnyH_take (i := 8) (oi := { dst := some 95, op := Op.load 3 (Operand.tmp 94), type := 3, pos := "ref.go:67", after := #[{ on := 7, ground := Ground.data }], guard := none }) (v := ?vv53_16_8) rfl (by kernel_rfl) (by kernel_rfl) (by kernel_rfl) (fun _ _ _ h => h) (Or.inl ⟨by rfl, ?yy53_16_8⟩) hHeld ?_
    case yy53_16_8 => (intro W hx; have hz := zz0.trans hx; obtain ⟨f0, f1, f2, f3, f4, f5⟩ := cells6 ((hz.block _ (blk_lt K3)).trans K3); go_simp; try with_reducible rfl)
    simp only [Act.put, List.setIfInBounds_toArray, List.set_cons_zero, List.set_cons_succ]
    refine wpAnyH_take (i := 9) (oi := { dst := some 96, op := Op.move (Operand.tmp 0), type := 26, pos := "ref.go:67", after := #[], guard := none }) (v := ?vv54_16_9) rfl (by kernel_rfl) (by kernel_rfl) (by kernel_rfl) (fun _ _ _ h => h) (Or.inl ⟨by rfl, ?yy54_16_9⟩) hHeld ?_
    case yy54_16_9 => (intro W hx; go_simp; try with_reducible rfl)
    simp only [Act.put, List.setIfInBounds_toArray, List.set_cons_zero, List.set_cons_succ]
    refine wpAnyH_take (i := 10) (oi := { dst := some 97, op := Op.nilCheck (Operand.tmp 96), type := 0, pos := "ref.go:67", after := #[{ on := 9, ground := Ground.data }], guard := none }) (v := ?vv55_16_10) rfl (by kernel_rfl) (by kernel_rfl) (by kernel_rfl) (fun _ _ _ h => h) (Or.inl ⟨by rfl, ?yy55_16_10⟩) hHeld ?_
    case yy55_16_10 => (intro W hx; go_simp; try with_reducible rfl)
    simp only [Act.put, List.setIfInBounds_toArray, List.set_cons_zero, List.set_cons_succ]
    refine wpAnyH_take (i := 11) (oi := { dst := some 98, op := Op.fieldAddr 38 (Operand.tmp 97) 4, type := 0, pos := "ref.go:67", after := #[{ on := 10, ground := Ground.data }], guard := none }) (v := ?vv56_16_11) rfl (by kernel_rfl) (by kernel_rfl) (by kernel_rfl) (fun _ _ _ h => h) (Or.inl ⟨by rfl, ?yy56_16_11⟩) hHeld ?_
    case yy56_16_11 => (intro W hx; go_simp; try with_reducible rfl)
    simp only [Act.put, List.setIfInBounds_toArray, List.set_cons_zero, List.set_cons_succ]
    refine wpAnyH_take (i := 12) (oi := { dst := some 99, op := Op.load 3 (Operand.tmp 98), type := 3, pos := "ref.go:67", after := #[{ on := 11, ground := Ground.data }], guard := none }) (v := ?vv57_16_12) rfl (by kernel_rfl) (by kernel_rfl) (by kernel_rfl) (fun _ _ _ h => h) (Or.inl ⟨by rfl, ?yy57_16_12⟩) hHeld ?_
    case yy57_16_12 => (intro W hx; have hz := zz0.trans hx; obtain ⟨f0, f1, f2, f3, f4, f5⟩ := cells6 ((hz.block _ (blk_lt K3)).trans K3); go_simp; try with_reducible rfl)
    simp only [Act.put, List.setIfInBounds_toArray, List.set_cons_zero, List.set_cons_succ]
    refine wpAnyH_take (i := 13) (oi := { dst := some 100, op := Op.move (Operand.tmp 12), type := 3, pos := "ref.go:67", after := #[], guard := none }) (v := ?vv58_16_13) rfl (by kernel_rfl) (by kernel_rfl) (by kernel_rfl) (fun _ _ _ h => h) (Or.inl ⟨by rfl, ?yy58_16_13⟩) hHeld ?_
    case yy58_16_13 => (intro W hx; go_simp; try with_reducible rfl)
    simp only [Act.put, List.setIfInBounds_toArray, List.set_cons_zero, List.set_cons_succ]
    refine wpAnyH_take (i := 14) (oi := { dst := some 101, op := Op.binOp BinOp.add 3 (Operand.tmp 99) (Operand.tmp 100) 3, type := 3, pos := "ref.go:67", after := #[{ on := 12, ground := Ground.data }, { on := 13, ground := Ground.data }], guard := none }) (v := ?vv59_16_14) rfl (by kernel_rfl) (by kernel_rfl) (by kernel_rfl) (fun _ _ _ h => h) (Or.inl ⟨by rfl, ?yy59_16_14⟩) hHeld ?_
    case yy59_16_14 => (intro W hx; go_simp; try with_reducible rfl)
    simp only [Act.put, List.setIfInBounds_toArray, List.set_cons_zero, List.set_cons_succ]
    refine wpAnyH_take (i := 15) (oi := { dst := some 102, op := Op.slice 29 (Operand.tmp 91) (some (Operand.tmp 95)) (some (Operand.tmp 101)) none, type := 29, pos := "ref.go:67", after := #[{ on := 4, ground := Ground.data }, { on := 8, ground := Ground.data }, { on := 14, ground := Ground.data }], guard := none }) (v := ?vv60_16_15) rfl (by kernel_rfl) (by kernel_rfl) (by kernel_rfl) (fun _ _ _ h => h) (Or.inl ⟨by rfl, ?yy60_16_15⟩) hHeld ?_
    case yy60_16_15 => (intro W hx; go_simp; try with_reducible rfl)
    simp only [Act.put, List.setIfInBounds_toArray, List.set_cons_zero, List.set_cons_succ]
    refine wpAnyH_ready (rs := [0]) (by kernel_rfl) (by simp) (AllReadyH.cons rfl (fun K hK => ?_) AllReadyH.nil)
    go_simp
    obtain ⟨wb, hw⟩ : ∃ V, V = World.alloc wD45 (.cells #[] 5) := ⟨_, rfl⟩
    rw [← hw]
    have xb : Ext wD45 wb := by rw [hw]; exact (Ext.refl _).alloc _
    have own0 := own_eq hw (own_lit (e := 5) (size := 1) #[] 0 rfl hB.size (le_max (by omega)) rfl)
    clear hw
    refine hK.out _ _ (hB.trans xb) (fun hHeld => ?_)
    clear hK K
    have hB := hB.trans xb
    have hW := zz0.trans hB
    refine wpAnyH_ready (rs := [16]) (by kernel_rfl) (by simp) (AllReadyH.cons rfl (fun K hK => ?_) AllReadyH.nil)
    rw [if_pos (by rfl)]
    refine wp_app2 (o := { dst := some 103, op := Op.call { callee := Callee.builtin Builtin.append, args := #[Operand.tmp 87, Operand.tmp 102], argTypes := #[29, 29] }, type := 29, pos := "ref.go:67", after := #[{ on := 0, ground := Ground.data }, { on := 15, ground := Ground.data }], guard := none }) el29 (.tmp 87) (.tmp 102) rfl own0 rfl (r3.ext hW).shows rfl (u8s_one _) (le_max (by omega)) (by omega) rfl hB ?_; intro V1 wq own1 x9 hg9 hat9
    simp only [Act.put, List.setIfInBounds_toArray, List.set_cons_zero, List.set_cons_succ]
    refine hK.out _ _ x9 (fun hHeld => ?_)
    clear hK K
    have hB := x9
    have hW := zz0.trans hB
    clear own0 hg9 hat9
    obtain ⟨A4, c4, rfl, l4, m4, r4, q4⟩ := back0 own1 r3.byts
    refine wpAnyH_take (i := 17) (oi := { dst := some 13, op := Op.assign (Operand.tmp 103), type := 29, pos := "ref.go:67", after := #[{ on := 16, ground := Ground.data }, { on := 16, ground := Ground.chain }, { on := 0, ground := Ground.phase }, { on := 1, ground := Ground.phase }, { on := 2, ground := Ground.phase }, { on := 3, ground := Ground.phase }, { on := 4, ground := Ground.phase }, { on := 5, ground := Ground.phase }, { on := 6, ground := Ground.phase }, { on := 7, ground := Ground.phase }, { on := 8, ground := Ground.phase }, { on := 9, ground := Ground.phase }, { on := 10, ground := Ground.phase }, { on := 11, ground := Ground.phase }, { on := 12, ground := Ground.phase }, { on := 13, ground := Ground.phase }, { on := 14, ground := Ground.phase }, { on := 15, ground := Ground.phase }, { on := 16, ground := Ground.phase }], guard := none }) (v := ?vv61_16_17) rfl (by kernel_rfl) (by kernel_rfl) (by kernel_rfl) (fun _ _ _ h => h) (Or.inl ⟨by rfl, ?yy61_16_17⟩) hHeld ?_
    case yy61_16_17 => (intro W hx; go_simp; try with_reducible rfl)
    simp only [Act.put, List.setIfInBounds_toArray, List.set_cons_zero, List.set_cons_succ]
    refine wpAnyH_done (by kernel_rfl) ?_ _
    have zend := hW
    have K4 := (zend.block _ (blk_lt K3)).trans K3
    obtain ⟨f0, f1, f2, f3, f4, f5⟩ := cells6 K4
    have z4 := blk_free (i := 4) K4
    go_upto_region 18 with (fail)
    obtain ⟨w5, hw5, K5, x5⟩ := set_new 4 (.int .i64 (q : Int)) K4
    rw [← hw5]; clear hw5
    go_wp2
    go_ret3
    exact rpost_of HRR.out HSN.out HT.out HM.out HQ.out HD.out xw2 xw3 zend (fun _ hi => .inl hi) (.of_ext (Ext.refl w)) K4 K5 x5 r4 l4 m4 (fun ad e => by have := q4 ad e; have := zz0.size; have := blk_lt K3; omega) (.inl HRR.out.fg)
end Go.Proofs.Ytnjiajogbadadaa
