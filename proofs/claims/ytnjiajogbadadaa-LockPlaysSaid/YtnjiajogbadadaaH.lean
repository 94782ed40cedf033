import Derived.Test.YtnjiajogbadadaaG
set_option linter.unusedVariables false
set_option linter.unusedSimpArgs false
namespace Go.Proofs.Ytnjiajogbadadaa
open Go.RowKit
set_option maxHeartbeats 1000000 in
theorem seed_free (g : Nat) (s : LSt) (F : Nat → Prop) (res : Int) (dA : Option Addr) (n c : Nat) (w : World) (h1 : 1 ≤ n) (h2 : n ≤ 20) (h : LkC w g s F) (ho : oneR res = true) (hz : bits .and .u8 s.lk res = 0) :
    Calls Try.prog 12 #[.pointer (some ⟨g, 0, none⟩), .int .u8 0, .int .u8 res, .slice dA n c] w (SeedPost w g F ⟨s.clear, 0, [], 0⟩) := by
  obtain ⟨sA, sc, kA, kc, h⟩ := h
  have HO := Lib.hid ho
  have hzz : (bits .and .u8 s.lk res == 0) = true := by simpa using hz
  clear ho
  go_enter Try.func12, Try.ntmps12
  go_upto_region 8 with (go_at_call 23; (refine (isOne_any _ _).mono ?_); rintro e w1 ⟨rfl, rfl⟩; rw [show (res == 1 || res == 4 || res == 8) = true from HO.out])
  go_upto_region 9 with (go_at_call 24; (refine (noSeed_any _ _ _ _ _ _ _ _ _ _ _ _ h.row).mono ?_); rintro e w2 ⟨rfl, K2, x2⟩)
  obtain ⟨f0, f1, f2, f3, f4, f5⟩ := cells6 K2
  go_wp2
  go_ret3
  have k : Kept F w w2 := .of_grown x2 (fun b e => by injection e with e; subst e; exact h.fg)
  exact ⟨none, 0, F, rfl, ⟨none, 0, none, 0, clear_of h K2 k.size⟩, k, Rd.nil, Nat.le_refl _, by simp, fun k e => .inl e, fun ad e => nomatch e⟩
set_option maxHeartbeats 1000000 in
theorem seed_ok (g : Nat) (s : LSt) (F : Nat → Prop) (res : Int) (dA : Option Addr) (n c : Nat) (bs : List Int) (w : World) (hr : Rd w dA n bs) (hF : 0 < n → ∀ ad, dA = some ad → ¬ F ad.block) (r0 : 0 ≤ res ∧ res < 256) (h1 : 1 ≤ n) (h2 : n ≤ 20) (h : LkC w g s F) (ho : oneR res = true) (hz : bits .and .u8 s.lk res ≠ 0) :
    Calls Try.prog 12 #[.pointer (some ⟨g, 0, none⟩), .int .u8 0, .int .u8 res, .slice dA n c] w (SeedPost w g F (LSt.part { s.clear with seed := bs, res := res })) := by
  obtain ⟨sA, sc, kA, kc, h⟩ := h
  have HO := Lib.hid ho
  have hzz : (bits .and .u8 s.lk res == 0) = false := by simpa using hz
  clear ho hz
  have HF := Lib.hid hF
  have hlen := Lib.hid hr.len
  go_enter Try.func12, Try.ntmps12
  go_upto_region 8 with (go_at_call 23; (refine (isOne_any _ _).mono ?_); rintro e w1 ⟨rfl, rfl⟩; rw [show (res == 1 || res == 4 || res == 8) = true from HO.out])
  go_upto_region 9 with (go_at_call 24; (refine (noSeed_any _ _ _ _ _ _ _ _ _ _ _ _ h.row).mono ?_); rintro e w2 ⟨rfl, K2, x2⟩)
  have k2 : Kept F w w2 := .of_grown x2 (fun b e => by injection e with e; subst e; exact h.fg)
  obtain ⟨f0, f1, f2, f3, f4, f5⟩ := cells6 K2
  have r2 := hr.kept k2 (hF (by omega))
  go_upto_region 11 with (fail)
  go_upto_region 15 with (go_at_call 25; (refine (clone_anyF _ _ _ _ _ r2 (by omega)).mono ?_); rintro e w3 ⟨A3, c3, rfl, l3, m3, x3, r3, q3⟩; have K3 := (x3.block _ (blk_lt K2)).trans K2; clear f0 f1 f2 f3 f4 f5; obtain ⟨f0, f1, f2, f3, f4, f5⟩ := cells6 K3; have z2 := blk_free (i := 2) K3; have z3 := blk_free (i := 3) K3)
  obtain ⟨w4, hw4, K4, x4⟩ := set_new 2 (.slice A3 n c3) K3
  rw [← hw4]; clear hw4
  obtain ⟨w5, hw5, K5, x5⟩ := set_new 3 (.int .u8 res) K4
  rw [← hw5]; clear hw5
  have x45 := x4.trans x5
  have k5 : Kept (· = g) w3 w5 := .of_grown x45 (fun b e => by injection e with e; exact e.symm)
  have hgl := blk_lt K2
  have hne : ∀ ad, A3 = some ad → ad.block ≠ g := fun ad e => by have := q3 ad e; omega
  have r5 := r3.kept k5 hne
  have kF : Kept F w w5 := (k2.then x3).trans k5 (fun i _ e => by subst e; exact h.fg)
  have hl := hlen.out
  subst hl
  have hR : LkR w5 g { s.clear with seed := bs, res := res } (fun k => F k ∨ ∃ ad, A3 = some ad ∧ k = ad.block) A3 c3 none 0 :=
    ⟨K5, r5, l3, own_nil, Byts.nil, .inl h.fg, fun ad e => ⟨.inr ⟨ad, e, rfl⟩, hne ad e⟩, (fun b e => nomatch e), (fun i hi => by
      rcases hi with hi | ⟨ad, e, rfl⟩
      · exact Nat.lt_of_lt_of_le (h.lt i hi) kF.size
      · obtain ⟨ad', e', hb, _⟩ := r5.shows.2 (by omega)
        rw [e] at e'; injection e' with e'; subst e'; exact hb), ⟨h.ok.all, h.ok.lk, r0, by simp [LSt.clear], by simpa using h2, by simp [LSt.clear]⟩⟩
  clear f0 f1 f2 f3 f4 f5 z2 z3
  go_wp2_with (go_at_call 26; (refine (part_cn _ _ _ _ _ _ _ _ hR).mono ?_); rintro e w6 ⟨A6, c6, rfl, hL6, x6, r6, l6, m6, q6⟩)
  go_ret3
  have k6 : Kept F w5 w6 := .of_grown x6 (fun b e => by injection e with e; subst e; exact h.fg)
  refine ⟨A6, c6, _, rfl, hL6, kF.trans' k6, r6, l6, m6, ?_, ?_⟩
  · rintro i (hi | ⟨ad, e, rfl⟩)
    · exact .inl hi
    · have := q3 ad e; have := k2.size; exact .inr (by omega)
  · intro ad e
    have h6 := q6 ad e
    have := kF.size
    refine ⟨by omega, fun hi => ?_⟩
    have := hR.lt _ hi
    omega
end Go.Proofs.Ytnjiajogbadadaa
