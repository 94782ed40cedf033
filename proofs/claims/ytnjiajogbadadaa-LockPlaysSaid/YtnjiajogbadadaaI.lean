import Derived.Test.YtnjiajogbadadaaH
set_option linter.unusedVariables false
set_option linter.unusedSimpArgs false
namespace Go.Proofs.Ytnjiajogbadadaa
open Go.RowKit
set_option maxHeartbeats 1000000 in
theorem seed_next (g : Nat) (s : LSt) (F : Nat → Prop) (res : Int) (dA : Option Addr) (n c : Nat) (w : World) (h : LkC w g s F) :
    Calls Try.prog 12 #[.pointer (some ⟨g, 0, none⟩), .int .u8 1, .int .u8 res, .slice dA n c] w (SeedPost w g F (if s.told = s.seed.length then ⟨s, 0, [], 90⟩ else s.part)) := by
  have hc := h
  obtain ⟨sA, sc, kA, kc, h⟩ := h
  obtain ⟨f0, f1, f2, f3, f4, f5⟩ := cells6 h.row
  have ht := h.ok.told
  have hl20 := h.ok.len
  have HH := Lib.hid h
  have HC := Lib.hid hc
  clear hc
  by_cases he : s.told = s.seed.length
  · have b1 : ((s.told : Int) == (s.seed.length : Int)) = true := by rw [he]; simp
    rw [if_pos he]
    have fin := fun w' (hx : Ext w w') => seedPost_same (n := 0) (err := 90) HC.out hx
    have FIN := Lib.hid fin
    clear he fin h
    go_enter Try.func12, Try.ntmps12
    go_upto_region 13 with (fail)
    go_quiet (fail)
    obtain ⟨w1, hWq⟩ : ∃ z : World, z = World.drewN w nq := ⟨_, rfl⟩
    rw [← hWq]
    have xw1 : Ext w w1 := by rw [hWq]; exact (Ext.refl _).drewN _
    clear hWq
    go_wp2
    go_ret3
    exact FIN.out _ xw1
  · have b1 : ((s.told : Int) == (s.seed.length : Int)) = false := by simp; omega
    rw [if_neg he]
    clear he h
    go_enter Try.func12, Try.ntmps12
    go_upto_region 13 with (fail)
    go_quiet (fail)
    obtain ⟨w1, hWq⟩ : ∃ z : World, z = World.drewN w nq := ⟨_, rfl⟩
    rw [← hWq]
    have xw1 : Ext w w1 := by rw [hWq]; exact (Ext.refl _).drewN _
    clear hWq
    have hR : LkR w1 g s F sA sc kA kc := by
      have h := HH.out
      exact ⟨(xw1.block _ (blk_lt h.row)).trans h.row, h.seed.ext xw1, h.cap, own_ext h.own xw1, h.kby, h.fg, h.fs, h.fk, fun i hi => Nat.lt_of_lt_of_le (h.lt i hi) xw1.size, h.ok⟩
    clear f0 f1 f2 f3 f4 f5
    go_wp2_with (go_at_call 26; (refine (part_cn _ _ _ _ _ _ _ _ hR).mono ?_); rintro e w6 ⟨A6, c6, rfl, hL6, x6, r6, l6, m6, q6⟩)
    go_ret3
    have k6 : Kept F w1 w6 := .of_grown x6 (fun b e => by injection e with e; subst e; exact hR.fg)
    refine ⟨A6, c6, F, rfl, hL6, Kept.trans' (.of_ext xw1) k6, r6, l6, m6, fun i hi => .inl hi, ?_⟩
    intro ad e
    have h6 := q6 ad e
    have := xw1.size
    refine ⟨by omega, fun hi => ?_⟩
    have := hR.lt _ hi
    omega
theorem seed_else (g : Nat) (s : LSt) (F : Nat → Prop) (mode res : Int) (dA : Option Addr) (n c : Nat) (w : World) (h : LkC w g s F) (h0 : mode ≠ 0) (h1 : mode ≠ 1) :
    Calls Try.prog 12 #[.pointer (some ⟨g, 0, none⟩), .int .u8 mode, .int .u8 res, .slice dA n c] w (SeedPost w g F ⟨s, 0, [], 1⟩) := by
  have FIN := Lib.hid fun w' (hx : Ext w w') => seedPost_same (n := 0) (err := 1) h hx
  have b0 : (mode == 0) = false := by simpa using h0
  have b1 : (mode == 1) = false := by simpa using h1
  clear h h0 h1
  go_enter Try.func12, Try.ntmps12
  go_wp2
  go_ret3
  exact FIN.out _ (Ext.refl _)
theorem seed_any (g : Nat) (s : LSt) (F : Nat → Prop) (mode res : Int) (dA : Option Addr) (n c : Nat) (bs : List Int) (w : World) (hr : Rd w dA n bs) (hF : 0 < n → ∀ ad, dA = some ad → ¬ F ad.block) (hnm : n ≤ maxLen) (r0 : 0 ≤ res ∧ res < 256) (h : LkC w g s F) :
    Calls Try.prog 12 #[.pointer (some ⟨g, 0, none⟩), .int .u8 mode, .int .u8 res, .slice dA n c] w (SeedPost w g F (s.doSeed mode res bs)) := by
  have hl := hr.len
  unfold LSt.doSeed
  split
  · rename_i hm
    subst hm
    split
    · rename_i hb
      exact seed_bad g s F res dA n c bs w hr hnm h hb
    · rename_i hb
      simp only [not_or, Bool.not_eq_false, hl] at hb
      split
      · rename_i hz
        exact seed_free g s F res dA n c w (by omega) (by omega) h hb.1 hz
      · rename_i hz
        exact seed_ok g s F res dA n c bs w hr hF r0 (by omega) (by omega) h hb.1 hz
  · rename_i h0
    split
    · rename_i h1
      subst h1
      exact seed_next g s F res dA n c w h
    · rename_i h1
      exact seed_else g s F mode res dA n c w h h0 h1
end Go.Proofs.Ytnjiajogbadadaa
