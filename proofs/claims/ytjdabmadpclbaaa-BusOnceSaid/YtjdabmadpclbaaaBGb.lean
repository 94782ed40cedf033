import Derived.Test.YtjdabmadpclbaaaBGa
import Derived.OwnWalk
set_option linter.unusedVariables false
set_option linter.unusedSimpArgs false
namespace Go.Proofs.Ytjdabmadpclbaaa
open Go.RowKit
set_option maxHeartbeats 4000000 in
theorem shown_any (w : World) : Calls Try.prog 8 #[] w fun e w' => e = .returned (.bool true) ∧ Ext w w' := by
  have ofa : ∀ x ∈ FA, x.ok := fi_ok 0 0 false (by omega)
  have o5 := fid_ok 5 false (by omega)
  have o3 := fid_ok 3 false (by omega)
  go_enter Try.func8, Try.ntmps8
  go_upto_region 2 with (go_at_call 26; (refine (new_any _ _ _ FA _ (shows_fi (f := ⟨0, 0, false⟩) 61) rfl (by decide) ofa).mono ?_); rintro e w1 ⟨g1, F1, rfl, b1, x1, n1⟩)
  go_upto_region 3 with (go_at_call 26; (refine (new_any _ _ _ FA _ (shows_fi (f := ⟨0, 0, false⟩) 61) rfl (by decide) ofa).mono ?_); rintro e w2 ⟨g2, F2, rfl, b2, x2, n2⟩)
  have L : BxsO w w2 71 [g1, g2] [BSt.new FA, BSt.new FA] := by
    have y1 : Ext w w1 := (((Ext.refl w).alloc _)).trans x1
    have y2 : Ext w1 w2 := (((Ext.refl w1).alloc _)).trans x2
    have m1 : ∀ k, F1 k → w.heap.size ≤ k := fun k hk => by have := n1 k hk; simp at this; omega
    have m2 : ∀ k, F2 k → w1.heap.size ≤ k := fun k hk => by have := n2 k hk; simp at this; omega
    exact ⟨_, ((Bxs.nil (w := w) (ty := 71)).push y1 b1 m1).push y2 b2 m2, y1.trans y2, by rintro k ((hk | hk) | hk); exact hk.elim; exact m1 k hk; exact Nat.le_trans y1.size (m2 k hk)⟩
  have L := Lib.hid L
  clear b1 b2 n1 n2 x1 x2
  go_upto_region 5 with (first
    | (go_at_call 13; (refine (send_b (i := 1) L3.out rfl rfl o3 sa2).mono ?_); rintro e w4 ⟨rfl, L4⟩)
    | (go_at_call 13; (refine (send_b (i := 0) L.out rfl rfl o5 sa1).mono ?_); rintro e w3 ⟨rfl, L3⟩; replace L3 := Lib.hid L3))
  obtain ⟨f3, hf3, hp3⟩ := sa3
  have HP3 := Lib.hid hp3
  have HID3 : Hid (f3.id = 3) := Lib.hid (by rw [hf3]; rfl)
  have HF3 := Lib.hid hf3
  clear hf3
  have L4 : Hid (BxsO w w4 71 [g1, g2] shA) := Lib.hid L4
  clear L L3 hp3
  go_upto_region 6 with (first
    | (go_at_call 11; (refine (first_b L4.out HP3.out).mono ?_); rintro e w5 ⟨rfl, L5⟩)
    | refine wpList_stnew rfl 34 _ _ rfl rfl f3.vals rfl rfl size37 rfl (fr_one f3) ?_)
  obtain ⟨w6, hw6⟩ : ∃ V, V = w5.alloc (.cells f3.vals.toArray 34) := ⟨_, rfl⟩
  have L6 := Lib.hid (L5.ext (show Ext w5 w6 by rw [hw6]; exact (Ext.refl _).alloc _))
  rw [← hw6]
  clear hw6
  clear L5 L4
  go_upto_region 7 with (first
    | (go_at_call 15; (refine (turn_b false L6.out HP3.out sa4).mono ?_); rintro e w7 ⟨rfl, L7⟩)
    | refine wpList_stnew rfl 34 _ _ rfl rfl f3.vals rfl rfl size37 rfl (fr_one f3) ?_)
  obtain ⟨w8, hw8⟩ : ∃ V, V = w7.alloc (.cells f3.vals.toArray 34) := ⟨_, rfl⟩
  have L8 : BxsO w w8 71 [g1, g2] [sB1, sB2] := L7.ext (show Ext w7 w8 by rw [hw8]; exact (Ext.refl _).alloc _)
  rw [← hw8]
  clear hw8
  have hrv : sB1.recv = (sB3, f3, true) := by rw [HF3.out]; exact sb1
  have HR := Lib.hid hrv
  have L8 := Lib.hid L8
  clear L7 L6 hrv
  go_upto_region 8 with (first
    | (go_at_call 19; (refine (recv_b (i := 0) (g := g1) (s := sB1) L8.out rfl sb2 HR.out).mono ?_); rintro e w9 ⟨rfl, L9⟩)
    | refine wpList_stnew rfl 34 _ _ rfl rfl f3.vals rfl rfl size37 rfl (fr_one f3) ?_)
  obtain ⟨w10, hw10⟩ : ∃ V, V = w9.alloc (.cells f3.vals.toArray 34) := ⟨_, rfl⟩
  have k10 : w10.heap[w9.heap.size]? = some (.cells f3.vals.toArray 34 (0, 0)) := by rw [hw10]; exact heap_alloc_new _ _
  have x10 : Ext w9 w10 := by rw [hw10]; exact (Ext.refl _).alloc _
  have LL := L9.ext x10
  rw [← hw10]
  clear hw10
  have c10 : w10.cell? ⟨w9.heap.size, 0, none⟩ = some (.int .u32 f3.id) := by rw [cell_of_row _ _ _ _ _ _ k10]; rfl
  rw [HID3.out] at c10
  go_wp2
  go_ret
  exact ⟨rfl, LL.x⟩
end Go.Proofs.Ytjdabmadpclbaaa
