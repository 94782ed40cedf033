import Derived.Test.YtjgmnbfadnlikaaU
set_option linter.unusedVariables false
set_option linter.unusedSimpArgs false
namespace Go.Proofs.Ytjgmnbfadnlikaa
open Go.RowKit
theorem new_any {w : World} {m : MP} {sA fA : Option Addr} {sc fc : Nat} (h : MpR w m sA fA sc fc) (hm : m.may = true) {rn sn fn : Value} (e1 : rn = .int .i64 m.ram) (e2 : sn = .slice sA m.segs.length sc) (e3 : fn = .slice fA m.flash.length fc) : Calls Try.prog 10 #[.agg #[rn, sn, fn]] w fun e w' => ∃ g va T, e = .returned (.tuple #[.pointer (some ⟨g, 0, none⟩), .int .i64 0]) ∧ Ext w w' ∧ MemC w' g (m.ms m.segs.length) va T ∧ ∀ b t, T b = some t → w.heap.size ≤ b := by
  subst e1 e2 e3
  exact new_yes h hm
def shMap (A : Option Addr) (c : Nat) : MP := ⟨0, [⟨4, 2⟩], [⟨A, 1, c, [7]⟩]⟩
def shS0 : MS := ⟨[], [⟨4, [[7, 0, 0, 0], [0, 0, 0, 0]], 0, 0⟩]⟩
def shS1 : MS := ⟨[], [⟨4, [[7, 0, 0, 0], [0, 0, 0, 0]], 1, 0⟩]⟩
def shS2 : MS := ⟨[], [⟨4, [[7, 0, 0, 0], [9, 0, 0, 0]], 1, 0⟩]⟩
theorem sh_may (A : Option Addr) (c : Nat) : (shMap A c).may = true := by kernel_rfl
theorem sh_ms (A : Option Addr) (c : Nat) : (shMap A c).ms 1 = shS0 := by kernel_rfl
theorem sh_r1 : shS0.err 1 1 0 1 = 0 ∧ shS0.rd 1 1 0 1 = [7] := by decide
theorem sh_w1 : shS0.wre 1 1 0 1 = 81 ∧ shS0.wr 1 1 0 [9] = shS0 := ⟨by decide, by kernel_rfl⟩
theorem sh_s1 : shS0.st 1 0 1 = (shS1, 0) := by kernel_rfl
theorem sh_w2 : shS1.wre 1 1 0 1 = 0 ∧ shS1.wr 1 1 0 [9] = shS2 := ⟨by decide, by kernel_rfl⟩
theorem sh_r2 : shS2.err 2 1 0 1 = 0 ∧ shS2.rd 2 1 0 1 = [7] := by decide
theorem str {w : World} {A : Option Addr} {n c : Nat} {bs : List Int} (hr : Rd w A n bs) : (convert 37 9 (.slice A n c)).run Try.prog w = .ok (.string (strOfNums bs)) w := run_str Try.underlying37 Try.underlying5 Try.underlying9 hr
theorem ext_kept {w w1 w2 : World} {T : Nat → Option Tg} (x : Ext w w1) (k : Kept (fun b => T b ≠ none) w1 w2) (h : ∀ b t, T b = some t → w.heap.size ≤ b) : Ext w w2 :=
  x.kept k (fun i hi => by obtain ⟨t, ht⟩ := Option.ne_none_iff_exists'.1 hi; exact h i t ht)
theorem rd_own {w : World} {base : Nat} {v : Value} {n : Nat} {bs : List Int} (h : w.ownsRow base 5 1 v n (u8s bs)) (hb : Byts bs) : ∃ A c, v = .slice A n c ∧ n ≤ c ∧ Rd w A n bs := by
  obtain ⟨A, c, rfl, hc, _⟩ := own_form h
  exact ⟨A, c, rfl, hc, ⟨Shows.of_own h, hb⟩⟩
theorem sh_str : strOfNums [7] = ⟨#[7]⟩ := by kernel_rfl
set_option maxRecDepth 100000 in
set_option maxHeartbeats 4000000 in
theorem shown_any (w : World) : Calls Try.prog 9 #[] w fun e w' => e = .returned (.bool true) ∧ Ext w w' := by
  obtain ⟨w1, hw1⟩ : ∃ V, V = w.alloc (.cells #[.int .i64 4, .int .i64 2] 54) := ⟨_, rfl⟩
  obtain ⟨w2, hw2⟩ : ∃ V, V = w1.alloc (.cells #[.int .u8 7] 5) := ⟨_, rfl⟩
  obtain ⟨w3, hw3⟩ : ∃ V, V = w2.alloc (.cells #[.slice (some ⟨w1.heap.size, 0, none⟩) 1 1] 37) := ⟨_, rfl⟩
  have x1 : Ext w w1 := by rw [hw1]; exact (Ext.refl _).alloc _
  have x2 : Ext w1 w2 := by rw [hw2]; exact (Ext.refl _).alloc _
  have x3 : Ext w2 w3 := by rw [hw3]; exact (Ext.refl _).alloc _
  have s1 : Shows w1 2 (some ⟨w.heap.size, 0, none⟩) 1 [.int .i64 4, .int .i64 2] := by
    rw [hw1]
    have K := heap_alloc_new w (.cells #[.int .i64 4, .int .i64 2] 54)
    exact ⟨rfl, fun _ => ⟨_, rfl, blk_lt K, fun j u hu => by have := cells_of_blk (off := 0) K j u (by simpa using hu); exact this⟩⟩
  have b7 : Byts [7] := by intro b hb; simp at hb; omega
  have b9 : Byts [9] := by intro b hb; simp at hb; omega
  have r2 : Rd w2 (some ⟨w1.heap.size, 0, none⟩) 1 [7] := by rw [hw2]; exact rd_new (cs := [7]) 5 rfl b7
  have s3 : Shows w3 1 (some ⟨w2.heap.size, 0, none⟩) 1 [.slice (some ⟨w1.heap.size, 0, none⟩) 1 1] := by rw [hw3]; exact Shows.new1 _ _ _
  have z1 : w.heap.size + 1 = w1.heap.size := by rw [hw1]; exact (Array.size_push _).symm
  have z2 : w1.heap.size + 1 = w2.heap.size := by rw [hw2]; exact (Array.size_push _).symm
  have HMP : MpR w3 (shMap (some ⟨w1.heap.size, 0, none⟩) 1) (some ⟨w.heap.size, 0, none⟩) (some ⟨w2.heap.size, 0, none⟩) 1 1 := ⟨s1.ext (x2.trans x3), s3, fun f hf => by
    simp [shMap] at hf
    subst hf
    exact ⟨r2.ext x3, Nat.le_refl _, by show 1 ≤ maxLen; unfold maxLen; omega⟩, ⟨Nat.le_refl _, by unfold maxLen; omega⟩, ⟨Nat.le_refl _, by unfold maxLen; omega⟩⟩
  have x03 := x1.trans (x2.trans x3)
  have HM := Lib.hid HMP
  have HX := Lib.hid x03
  have B7 := Lib.hid b7
  have B9 := Lib.hid b9
  have HW := Lib.hid (show w1 = w.alloc (.cells #[.int .i64 4, .int .i64 2] 54) ∧ w2 = w1.alloc (.cells #[.int .u8 7] 5) ∧ w3 = w2.alloc (.cells #[.slice (some ⟨w1.heap.size, 0, none⟩) 1 1] 37) from ⟨hw1, hw2, hw3⟩)
  have HZ := Lib.hid (And.intro z1 z2)
  clear hw1 hw2 hw3 x1 x2 x3 s1 r2 s3 HMP x03 b7 b9 z1 z2
  go_enter Try.func9, Try.ntmps9
  go_upto_region 2 with (go_at_call 10; rw [← HW.out.1, HZ.out.1, ← HW.out.2.1, HZ.out.2, ← HW.out.2.2]; (refine (new_any HM.out (sh_may _ _) rfl rfl rfl).mono ?_); rintro e w4 ⟨g, va, T, rfl, x4, M0, hT⟩)
  have M0 : MemC w4 g shS0 va T := by have h := M0; rwa [show (shMap (some ⟨w1.heap.size, 0, none⟩) 1).ms (shMap (some ⟨w1.heap.size, 0, none⟩) 1).segs.length = shS0 from sh_ms _ _] at h
  have R9 : ∀ W : World, Rd (W.alloc (.cells #[.int .u8 9] 5)) (some ⟨W.heap.size, 0, none⟩) 1 [9] := fun W => rd_new (cs := [9]) 5 rfl B9.out
  have HT := Lib.hid hT
  have H9 := Lib.hid R9
  have N0 := Lib.hid M0
  clear hT R9 M0
  go_upto_region 5 with (go_at_call 23; (refine (read_any N0.out 1 1 0 1 (by omega) (by omega) (by omega)).mono ?_); rw [sh_r1.1, sh_r1.2]; rintro e w5 ⟨x5, v5, rfl, o5⟩)
  have o5 : w5.ownsRow w4.heap.size 5 1 v5 1 (u8s [7]) := o5
  obtain ⟨A5, c5, rfl, hc5, r5⟩ := rd_own o5 B7.out
  have N1 := Lib.hid (N0.out.ext (x5.trans ((Ext.refl w5).alloc (.cells #[.int .u8 9] 5))))
  go_upto_region 6 with (go_at_call 22; (refine (write_any N1.out 1 1 0 1 (H9.out w5) (by omega) (by omega) (by omega)).mono ?_); rw [sh_w1.1, sh_w1.2]; rintro e w6 ⟨rfl, M6, k6⟩)
  have N6 := Lib.hid M6
  clear M6
  go_upto_region 7 with (go_at_call 25; (refine (set_any N6.out 1 0 1).mono ?_); rw [sh_s1]; rintro e w7 ⟨rfl, M7, k7⟩)
  have N7 := Lib.hid (M7.ext ((Ext.refl w7).alloc (.cells #[.int .u8 9] 5)))
  clear M7
  go_upto_region 8 with (go_at_call 22; (refine (write_any N7.out 1 1 0 1 (H9.out w7) (by omega) (by omega) (by omega)).mono ?_); rw [sh_w2.1, sh_w2.2]; rintro e w8 ⟨rfl, M8, k8⟩)
  have N8 := Lib.hid M8
  clear M8
  go_upto_region 9 with (go_at_call 23; (refine (read_any N8.out 2 1 0 1 (by omega) (by omega) (by omega)).mono ?_); rw [sh_r2.1, sh_r2.2]; rintro e w9 ⟨x9, v9, rfl, o9⟩)
  have o9 : w9.ownsRow w8.heap.size 5 1 v9 1 (u8s [7]) := o9
  obtain ⟨A9, c9, rfl, hc9, r9⟩ := rd_own o9 B7.out
  have k59 : Kept (fun b => T b ≠ none) w5 w9 := ((Kept.of_ext ((Ext.refl w5).alloc _)).trans' (k6.trans' (k7.trans' ((Kept.of_ext ((Ext.refl w7).alloc _)).trans' k8)))).then x9
  have hA5 : ∀ ad, A5 = some ad → ¬ (T ad.block ≠ none) := fun ad e h => by
    obtain ⟨t, ht⟩ := Option.ne_none_iff_exists'.1 h
    have := (o5.lt ad.block (by rw [e]; rfl)).1
    have := N0.out.O.lt _ _ ht
    omega
  have q1 := str (c := c5) (r5.kept k59 hA5)
  have q2 := str (c := c9) r9
  have q3 := sh_str
  go_wp2
  go_ret
  exact ⟨by simp, ext_kept (HX.out.trans (x4.trans x5)) k59 (fun b t h => Nat.le_trans HX.out.size (HT.out b t h))⟩
end Go.Proofs.Ytjgmnbfadnlikaa
