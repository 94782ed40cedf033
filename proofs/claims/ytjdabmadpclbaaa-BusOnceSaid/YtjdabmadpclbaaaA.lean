import Derived.Test.YtjdabmadpclbaaaBase
import Derived.StillTailTactics
set_option linter.unusedVariables false
set_option linter.unusedSimpArgs false
namespace Go.Proofs.Ytjdabmadpclbaaa
open Go.RowKit
def idsI (ext : Bool) : Int := if ext then 536870912 else 2048
def mayB (id : Int) (ext : Bool) (len : Int) (bs : List Int) : Bool := decide (id < idsI ext) && decide (0 ≤ len) && decide (len ≤ 8) && (bs.drop len.toNat).all (· == 0)
theorem ids_any (ext : Bool) (w : World) : Calls Try.prog 41 #[.bool ext] w fun e w' => e = .returned (.int .u32 (idsI ext)) ∧ w = w' := by
  cases ext
  all_goals
    go_enter Try.func41, Try.ntmps41
    go_wp2
    go_ret
    exact ⟨rfl, rfl⟩
theorem known_any (id : Int) (ext : Bool) (w : World) : Calls Try.prog 37 #[.int .u32 id, .bool ext] w fun e w' => e = .returned (.bool (decide (id < idsI ext))) ∧ w = w' := by
  cases ext
  all_goals
    go_enter Try.func37, Try.ntmps37
    go_wp2
    all_goals go_ret
    all_goals simp [idsI]
    all_goals try omega
theorem size5 (w : World) : (sizeOf 5).run Try.prog w = .ok 1 w := by
  obtain ⟨i, h, h1⟩ : ∃ i, Try.prog.info? 5 = some i ∧ i.size = 1 := by
    have : (Try.prog.info? 5).map (·.size) = some 1 := by kernel_rfl
    cases hh : Try.prog.info? 5 with
    | none => rw [hh] at this; cases this
    | some i => exact ⟨i, rfl, by rw [hh] at this; simpa using this⟩
  simp [sizeOf, typeInfo, h, h1]
theorem run_eq8 (d : Nat) (w : World) (x0 x1 x2 x3 x4 x5 x6 x7 y0 y1 y2 y3 y4 y5 y6 y7 : Int) :
    (Op.equalIn (d + 2) 32 (.agg #[.int .u8 x0, .int .u8 x1, .int .u8 x2, .int .u8 x3, .int .u8 x4, .int .u8 x5, .int .u8 x6, .int .u8 x7]) (.agg #[.int .u8 y0, .int .u8 y1, .int .u8 y2, .int .u8 y3, .int .u8 y4, .int .u8 y5, .int .u8 y6, .int .u8 y7])).run Try.prog w =
    .ok ([x0, x1, x2, x3, x4, x5, x6, x7] == [y0, y1, y2, y3, y4, y5, y6, y7]) w := by
  rw [Op.equalIn]
  simp only [Sem.run_bind, run_underlying Try.underlying32, Result.andThen_ok, size5]
  simp [List.range', List.forIn_cons, go_sem]
  repeat' split
  all_goals simp_all
theorem run_eql8 (w : World) (x0 x1 x2 x3 x4 x5 x6 x7 y0 y1 y2 y3 y4 y5 y6 y7 : Int) :
    (Op.equalIn 10000 32 (.agg #[.int .u8 x0, .int .u8 x1, .int .u8 x2, .int .u8 x3, .int .u8 x4, .int .u8 x5, .int .u8 x6, .int .u8 x7]) (.agg #[.int .u8 y0, .int .u8 y1, .int .u8 y2, .int .u8 y3, .int .u8 y4, .int .u8 y5, .int .u8 y6, .int .u8 y7])).run Try.prog w =
    .ok ([x0, x1, x2, x3, x4, x5, x6, x7] == [y0, y1, y2, y3, y4, y5, y6, y7]) w := run_eq8 9998 w ..
theorem cells8 {w : World} {g : Nat} {t : TypeId} {fr : Nat × Nat} {x0 x1 x2 x3 x4 x5 x6 x7 : Value} (h : w.heap[g]? = some (.cells #[x0, x1, x2, x3, x4, x5, x6, x7] t fr)) :
    w.cell? ⟨g, 0, none⟩ = some x0 ∧ w.cell? ⟨g, 1, none⟩ = some x1 ∧ w.cell? ⟨g, 2, none⟩ = some x2 ∧ w.cell? ⟨g, 3, none⟩ = some x3 ∧ w.cell? ⟨g, 4, none⟩ = some x4 ∧ w.cell? ⟨g, 5, none⟩ = some x5 ∧ w.cell? ⟨g, 6, none⟩ = some x6 ∧ w.cell? ⟨g, 7, none⟩ = some x7 := by
  refine ⟨?_, ?_, ?_, ?_, ?_, ?_, ?_, ?_⟩ <;> (rw [cell_of_row _ _ _ _ _ _ h]; rfl)
theorem may_any (id : Int) (ext : Bool) (len : Int) (b0 b1 b2 b3 b4 b5 b6 b7 : Int) (w : World) :
    Calls Try.prog 31 #[.agg #[.int .u32 id, .bool ext, .int .i64 len, .int .u8 b0, .int .u8 b1, .int .u8 b2, .int .u8 b3, .int .u8 b4, .int .u8 b5, .int .u8 b6, .int .u8 b7]] w fun e w' => e = .returned (.bool (mayB id ext len [b0, b1, b2, b3, b4, b5, b6, b7])) ∧ Ext w w' := by
  obtain ⟨I, hI⟩ : ∃ I, I = idsI ext := ⟨_, rfl⟩
  have ci : ∀ W, Calls Try.prog 41 #[.bool ext] W fun e w' => e = .returned (.int .u32 I) ∧ W = w' := fun W => by rw [hI]; exact ids_any ext W
  have CI := Lib.hid ci; clear ci
  have HI := Lib.hid hI; clear hI
  by_cases h1 : I ≤ id
  · go_enter Try.func31, Try.ntmps31
    go_wp2_with fail
    go_quiet ((go_at_call 41; exact quiet_l (CI.out _)))
    go_wp2
    go_ret
    exact ⟨by rw [mayB, ← HI.out]; simp; intros; omega, ((Ext.refl _).alloc _).drewN _⟩
  · by_cases h2 : len < 0
    · go_enter Try.func31, Try.ntmps31
      go_wp2_with fail
      go_quiet ((go_at_call 41; exact quiet_l (CI.out _)))
      go_wp2
      go_ret
      exact ⟨by rw [mayB, ← HI.out]; simp; intros; omega, ((Ext.refl _).alloc _).drewN _⟩
    · by_cases h3 : 8 < len
      · go_enter Try.func31, Try.ntmps31
        go_wp2_with fail
        go_quiet ((go_at_call 41; exact quiet_l (CI.out _)))
        go_wp2
        go_ret
        exact ⟨by rw [mayB, ← HI.out]; simp; intros; omega, ((Ext.refl _).alloc _).drewN _⟩
      · obtain ⟨L, rfl⟩ : ∃ L : Nat, len = L := ⟨len.toNat, by omega⟩
        have l0 : (0:Int) ≤ L := by omega
        have l8 : (L:Int) ≤ 8 := by omega
        clear h2 h3
        go_enter Try.func31, Try.ntmps31
        go_wp2_with fail
        go_quiet ((go_at_call 41; exact quiet_l (CI.out _)))
        go_wp2
        obtain ⟨W, hW⟩ : ∃ W, W = ((w.alloc (.cells #[.int .u32 id, .bool ext, .int .i64 L, .int .u8 b0, .int .u8 b1, .int .u8 b2, .int .u8 b3, .int .u8 b4, .int .u8 b5, .int .u8 b6, .int .u8 b7] 34)).drewN nq).alloc (.cells #[.int .u8 0, .int .u8 0, .int .u8 0, .int .u8 0, .int .u8 0, .int .u8 0, .int .u8 0, .int .u8 0] 32) := ⟨_, rfl⟩
        have k0 : Hid (W.heap[w.heap.size]? = some (.cells #[.int .u32 id, .bool ext, .int .i64 L, .int .u8 b0, .int .u8 b1, .int .u8 b2, .int .u8 b3, .int .u8 b4, .int .u8 b5, .int .u8 b6, .int .u8 b7] 34 (0, 0))) := by rw [hW]; exact blk_of (((Ext.refl _).drewN _).alloc _)
        have k1 : Hid (W.heap[w.heap.size + 1]? = some (.cells #[.int .u8 0, .int .u8 0, .int .u8 0, .int .u8 0, .int .u8 0, .int .u8 0, .int .u8 0, .int .u8 0] 32 (0, 0))) := by rw [hW]; exact blk_new (by simp)
        have kx : Ext w W := by rw [hW]; exact (((Ext.refl _).alloc _).drewN _).alloc _
        have f2 : W.cell? ⟨w.heap.size, 2, none⟩ = some (.int .i64 L) := by rw [cell_of_row _ _ _ _ _ _ k0]; rfl
        rw [← hW]
        clear hW
        go_still_tail 7, (by kernel_rfl)
        change wpList _ _ _ _ _ W.drew
        refine wpList_copy_splice rfl (.tmp 22) (.tmp 26) 77 77 rfl 5 Try.underlying77 (by kernel_rfl) _ _ _ _ _ _ rfl rfl (w.heap.size + 1) L [.int .u8 0, .int .u8 0, .int .u8 0, .int .u8 0, .int .u8 0, .int .u8 0, .int .u8 0, .int .u8 0] 32 k1 ((#[.int .u32 id, .bool ext, .int .i64 L, .int .u8 b0, .int .u8 b1, .int .u8 b2, .int .u8 b3, .int .u8 b4, .int .u8 b5, .int .u8 b6, .int .u8 b7]).toList.drop (3 + L)) (by simp; try omega) (fun hp => by have h8 : ¬ 8 = L := (by simp at hp; omega); exact ⟨by simp [h8], ⟨w.heap.size, 3 + L, none⟩, by simp [h8], cells_of_blk (W := W.drew) k0.out⟩) (by simp; omega) (fun v hv => by have := List.mem_of_mem_drop hv; simp at this; rcases this with rfl | rfl | rfl | rfl | rfl | rfl | rfl | rfl | rfl | rfl | rfl <;> rfl) w.heap.size w kx.drew (by simp) ?_
        intro w4 hg4 hb4
        have hL : L = 0 ∨ L = 1 ∨ L = 2 ∨ L = 3 ∨ L = 4 ∨ L = 5 ∨ L = 6 ∨ L = 7 ∨ L = 8 := by omega
        rcases hL with rfl | rfl | rfl | rfl | rfl | rfl | rfl | rfl | rfl
        all_goals
          obtain ⟨c0, c1, c2, c3, c4, c5, c6, c7⟩ := cells8 hg4.out
          clear hg4 k0 k1 f2
          have heq := run_eql8 w4
          go_wp2
          go_ret
          refine ⟨?_, hb4⟩
          have hid : id < I := by omega
          rw [mayB, ← HI.out]
          simp [hid]
          try rfl
end Go.Proofs.Ytjdabmadpclbaaa
