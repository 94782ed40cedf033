import Derived.Test.YtnjiajogbadadaaL
set_option linter.unusedVariables false
set_option linter.unusedSimpArgs false
namespace Go.Proofs.Ytnjiajogbadadaa
open Go.RowKit
structure RkR (w : World) (g : Nat) (s : LSt) (F : Nat → Prop) (sA : Option Addr) (sc : Nat) (kA : Option Addr) (kc : Nat) : Prop where
  row : w.heap[g]? = some (.cells #[.int .u8 s.all, .int .u8 s.lk, .slice sA s.seed.length sc, .int .u8 s.res, .int .i64 (s.told : Int), .slice kA s.key.length kc] 38 (0, 0))
  seed : Rd w sA s.seed.length s.seed
  cap : s.seed.length ≤ sc
  nil : s.seed.length = 0 ↔ sA = none
  key : Rd w kA s.key.length s.key
  fg : F g
  fs : ∀ ad, sA = some ad → F ad.block ∧ ad.block ≠ g
  fk : ∀ ad, kA = some ad → F ad.block ∧ ad.block ≠ g
  lt : ∀ k, F k → k < w.heap.size
  ok : s.ok
def RkC (w : World) (g : Nat) (s : LSt) (F : Nat → Prop) : Prop := ∃ sA sc kA kc, RkR w g s F sA sc kA kc
theorem RkR.kept {w w' : World} {g : Nat} {s : LSt} {F G : Nat → Prop} {sA : Option Addr} {sc : Nat} {kA : Option Addr} {kc : Nat} (h : RkR w g s F sA sc kA kc) (k : Kept G w w') (hn : ∀ i, F i → ¬ G i) : RkR w' g s F sA sc kA kc :=
  ⟨k.blk h.row (hn _ h.fg), h.seed.kept k (fun ad e => hn _ (h.fs ad e).1), h.cap, h.nil, h.key.kept k (fun ad e => hn _ (h.fk ad e).1), h.fg, h.fs, h.fk, fun i hi => Nat.lt_of_lt_of_le (h.lt i hi) k.size, h.ok⟩
theorem RkC.kept {w w' : World} {g : Nat} {s : LSt} {F G : Nat → Prop} (h : RkC w g s F) (k : Kept G w w') (hn : ∀ i, F i → ¬ G i) : RkC w' g s F := by
  obtain ⟨sA, sc, kA, kc, h⟩ := h
  exact ⟨sA, sc, kA, kc, h.kept k hn⟩
theorem RkC.ext {w w' : World} {g : Nat} {s : LSt} {F : Nat → Prop} (h : RkC w g s F) (k : Ext w w') : RkC w' g s F := h.kept (G := fun _ => False) (.of_ext k) (fun _ _ e => e)
theorem RkR.ext {w w' : World} {g : Nat} {s : LSt} {F : Nat → Prop} {sA : Option Addr} {sc : Nat} {kA : Option Addr} {kc : Nat} (h : RkR w g s F sA sc kA kc) (k : Ext w w') : RkR w' g s F sA sc kA kc := h.kept (G := fun _ => False) (.of_ext k) (fun _ _ e => e)
def RSeedPost (w : World) (g : Nat) (F : Nat → Prop) (o : LOut) (e : Ending) (w' : World) : Prop :=
  ∃ A c F', e = .returned (.tuple #[.int .i64 o.n, .slice A o.part.length c, .int .i64 o.err]) ∧ RkC w' g o.st F' ∧ Kept F w w' ∧ Rd w' A o.part.length o.part ∧ o.part.length ≤ c ∧ c ≤ maxLen ∧
    (∀ k, F' k → F k ∨ w.heap.size ≤ k)
def RUnlPost (w : World) (g : Nat) (F : Nat → Prop) (o : UOut) (e : Ending) (w' : World) : Prop :=
  e = .returned (.int .i64 o.err) ∧ ∃ F', RkC w' g o.st F' ∧ Kept F w w' ∧ ∀ k, F' k → F k ∨ w.heap.size ≤ k
theorem rseedPost_same {w w' : World} {g : Nat} {F : Nat → Prop} {s : LSt} {n err : Int} (h : RkC w g s F) (hx : Ext w w') : RSeedPost w g F ⟨s, n, [], err⟩ (.returned (.tuple #[.int .i64 n, .slice none 0 0, .int .i64 err])) w' :=
  ⟨none, 0, F, rfl, h.ext hx, .of_ext hx, Rd.nil, Nat.le_refl _, by simp, fun k e => .inl e⟩
theorem rforget_any (g : Nat) (all lk : Int) (sA : Option Addr) (sn sc : Nat) (res told : Int) (kA : Option Addr) (kn kc : Nat) (w : World) (K : w.heap[g]? = some (.cells #[.int .u8 all, .int .u8 lk, .slice sA sn sc, .int .u8 res, .int .i64 told, .slice kA kn kc] 38 (0, 0))) :
    Calls Try.prog 27 #[.pointer (some ⟨g, 0, none⟩)] w fun e w' => e = .returned (.tuple #[]) ∧ w'.heap[g]? = some (.cells #[.int .u8 all, .int .u8 lk, .slice none 0 0, .int .u8 0, .int .i64 0, .slice none 0 0] 38 (0, 0)) ∧ w.grownBy w' (some g) := by
  obtain ⟨f0, f1, f2, f3, f4, f5⟩ := cells6 K
  have z2 := blk_free (i := 2) K
  have z3 := blk_free (i := 3) K
  have z4 := blk_free (i := 4) K
  have z5 := blk_free (i := 5) K
  go_enter Try.func27, Try.ntmps27
  go_wp2
  go_end0
  obtain ⟨W2, hW2, K2, x2⟩ := set_new 2 (.slice none 0 0) K
  rw [← hW2]; clear hW2
  obtain ⟨W3, hW3, K3, x3⟩ := set_new 3 (.int .u8 0) K2
  rw [← hW3]; clear hW3
  obtain ⟨W4, hW4, K4, x4⟩ := set_new 4 (.int .i64 0) K3
  rw [← hW4]; clear hW4
  obtain ⟨W5, hW5, K5, x5⟩ := set_new 5 (.slice none 0 0) K4
  rw [← hW5]; clear hW5
  exact ⟨rfl, K5, x2.trans (x3.trans (x4.trans x5))⟩
theorem rclear_of {w w' : World} {g : Nat} {s : LSt} {F : Nat → Prop} {sA : Option Addr} {sc : Nat} {kA : Option Addr} {kc : Nat} (h : RkR w g s F sA sc kA kc)
    (K : w'.heap[g]? = some (.cells #[.int .u8 s.all, .int .u8 s.lk, .slice none 0 0, .int .u8 0, .int .i64 0, .slice none 0 0] 38 (0, 0))) (hs : w.heap.size ≤ w'.heap.size) : RkR w' g s.clear F none 0 none 0 :=
  ⟨K, Rd.nil, Nat.le_refl _, by simp [LSt.clear], Rd.nil, h.fg, (fun ad e => nomatch e), (fun b e => nomatch e), fun k hk => Nat.lt_of_lt_of_le (h.lt k hk) hs, LSt.clear_ok h.ok⟩
theorem three_any (r : Int) (w : World) : Calls Try.prog 22 #[.int .u8 r] w fun e w' => e = .returned (.int .u8 (bits .and .u8 r 13)) ∧ w = w' := by
  go_enter Try.func22, Try.ntmps22
  go_wp2
  go_ret
  exact ⟨rfl, rfl⟩
theorem rnew_any (r : Int) (w : World) (h : 0 ≤ r ∧ r < 256) : Calls Try.prog 10 #[.int .u8 r] w fun e w' => ∃ g F, e = .returned (.pointer (some ⟨g, 0, none⟩)) ∧ RkC w' g (LSt.new r) F ∧ Ext w w' ∧ ∀ k, F k → w.heap.size ≤ k := by
  go_enter Try.func10, Try.ntmps10
  go_wp2_with (go_at_call 22; (refine (three_any _ _).mono ?_); rintro e w1 ⟨rfl, rfl⟩)
  go_ret
  have hb := and_bd h (b := 13) (by omega)
  have K : (w.alloc (.cells #[.int .u8 (bits .and .u8 r 13), .int .u8 (bits .and .u8 r 13), .slice none 0 0, .int .u8 0, .int .i64 0, .slice none 0 0] 38)).heap[w.heap.size]? = some (.cells #[.int .u8 (bits .and .u8 r 13), .int .u8 (bits .and .u8 r 13), .slice none 0 0, .int .u8 0, .int .i64 0, .slice none 0 0] 38 (0, 0)) := heap_alloc_new _ _
  exact ⟨_, fun k => k = w.heap.size, rfl, ⟨none, 0, none, 0, K, Rd.nil, Nat.le_refl _, by simp [LSt.new], Rd.nil, rfl, (fun ad e => nomatch e), (fun b e => nomatch e), (fun k hk => by subst hk; exact blk_lt K), ⟨hb, hb, by simp [LSt.new], by simp [LSt.new], by simp [LSt.new], by simp [LSt.new]⟩⟩, (Ext.refl w).alloc _, fun k hk => by subst hk; exact Nat.le_refl _⟩
theorem rrelock_any (g : Nat) (s : LSt) (F : Nat → Prop) (w : World) (h : RkC w g s F) : Calls Try.prog 18 #[.pointer (some ⟨g, 0, none⟩)] w fun e w' => e = .returned (.tuple #[]) ∧ RkC w' g { s.clear with lk := s.all } F ∧ Kept F w w' := by
  obtain ⟨sA, sc, kA, kc, h⟩ := h
  have K := h.row
  have HH := Lib.hid h
  clear h
  obtain ⟨f0, f1, f2, f3, f4, f5⟩ := cells6 K
  have z1 := blk_free (i := 1) K
  go_enter Try.func18, Try.ntmps18
  go_upto_region 1 with (fail)
  obtain ⟨W2, hW2, K2, x2⟩ := set_new 1 (.int .u8 s.all) K
  rw [← hW2]; clear hW2
  go_wp2_with (go_at_call 27; (refine (rforget_any _ _ _ _ _ _ _ _ _ _ _ _ K2).mono ?_); rintro e w3 ⟨rfl, K3, x3⟩)
  go_end0
  have h := HH.out
  have k : Kept F w w3 := .of_grown (x2.trans x3) (fun b e => by injection e with e; subst e; exact h.fg)
  exact ⟨rfl, ⟨none, 0, none, 0, K3, Rd.nil, Nat.le_refl _, by simp [LSt.clear], Rd.nil, h.fg, (fun ad e => nomatch e), (fun b e => nomatch e), (fun i hi => Nat.lt_of_lt_of_le (h.lt i hi) k.size), ⟨h.ok.all, h.ok.all, by simp [LSt.clear], by simp [LSt.clear], by simp [LSt.clear], by simp [LSt.clear]⟩⟩, k⟩
end Go.Proofs.Ytnjiajogbadadaa
