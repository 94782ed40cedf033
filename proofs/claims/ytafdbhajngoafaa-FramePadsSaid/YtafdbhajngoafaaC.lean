import Derived.Test.YtafdbhajngoafaaB
set_option linter.unusedVariables false
namespace Go.Proofs.Ytafdbhajngoafaa
open Go.RowKit
def padZ (bs : List Int) : List Int := bs ++ List.replicate (8 - bs.length) 0
theorem Ext.trans' {a b c : World} {B : Nat} (h : Ext a b) (k : Below B b c) (hB : a.heap.size ≤ B := by simp) : Ext a c := Below.trans h (Below.mono k hB)
theorem all1 {id len x0 x1 x2 x3 x4 x5 x6 x7 : Int} {ext : Bool} (_ : True) : (#[.int .u32 id, .bool ext, .int .i64 len, .int .u8 x0, .int .u8 x1, .int .u8 x2, .int .u8 x3, .int .u8 x4, .int .u8 x5, .int .u8 x6, .int .u8 x7] : Array Value).all Value.oneCell' = true := by simp [Value.oneCell']
theorem padZ_len {bs : List Int} (h : bs.length ≤ 8) : (padZ bs).length = 8 := by simp [padZ]; omega
theorem make_no1 (id : Int) (ext : Bool) (A : Option Addr) (n c : Nat) (w : World) (h : idsI ext ≤ id) :
    Calls Try.prog 10 #[.int .u32 id, .bool ext, .slice A n c] w fun e w' => e = .returned (.tuple #[.agg #[.int .u32 0, .bool false, .int .i64 0, .int .u8 0, .int .u8 0, .int .u8 0, .int .u8 0, .int .u8 0, .int .u8 0, .int .u8 0, .int .u8 0], .int .i64 1]) ∧ Ext w w' := by
  go_enter Try.func10, Try.ntmps10
  go_wp2_with (go_at_call 23; (with_reducible refine (ids_any _ _).mono ?_); rintro e w1 ⟨rfl, rfl⟩)
  refine bodyPost_ret (results_row2 rfl rfl (blk_new rfl) Try.underlying26 rfl (by kernel_rfl)) rfl ⟨rfl, (Ext.refl _).alloc _⟩
theorem make_no3 (id : Int) (ext : Bool) (A : Option Addr) (n c : Nat) (w : World) (h : id < idsI ext) (hn : (8 : Int) < n) :
    Calls Try.prog 10 #[.int .u32 id, .bool ext, .slice A n c] w fun e w' => e = .returned (.tuple #[.agg #[.int .u32 0, .bool false, .int .i64 0, .int .u8 0, .int .u8 0, .int .u8 0, .int .u8 0, .int .u8 0, .int .u8 0, .int .u8 0, .int .u8 0], .int .i64 3]) ∧ Ext w w' := by
  go_enter Try.func10, Try.ntmps10
  go_wp2_with (go_at_call 23; (with_reducible refine (ids_any _ _).mono ?_); rintro e w1 ⟨rfl, rfl⟩)
  refine bodyPost_ret (results_row2 rfl rfl (blk_new rfl) Try.underlying26 rfl (by kernel_rfl)) rfl ⟨rfl, (Ext.refl _).alloc _⟩
theorem make_any (id : Int) (ext : Bool) (A : Option Addr) (n c : Nat) (bs : List Int) (w : World) (hr : Rd w A n bs) (h : id < idsI ext) (hn : (n : Int) ≤ 8) :
    Calls Try.prog 10 #[.int .u32 id, .bool ext, .slice A n c] w fun e w' => ∃ x0 x1 x2 x3 x4 x5 x6 x7, padZ bs = [x0, x1, x2, x3, x4, x5, x6, x7] ∧ e = .returned (.tuple #[.agg #[.int .u32 id, .bool ext, .int .i64 n, .int .u8 x0, .int .u8 x1, .int .u8 x2, .int .u8 x3, .int .u8 x4, .int .u8 x5, .int .u8 x6, .int .u8 x7], .int .i64 0]) ∧ Ext w w' := by
  have hn0 : (0 : Int) ≤ n := by omega
  have hl := hr.len
  go_enter Try.func10, Try.ntmps10
  go_wp2_with (first
    | (go_at_call 23; (with_reducible refine (ids_any _ _).mono ?_); rintro e w1 ⟨rfl, rfl⟩)
    | (refine wpList_copy_splice rfl (.tmp 24) (.tmp 25) 23 23 rfl 5 Try.underlying23 (by kernel_rfl) _ _ _ _ _ _ rfl rfl (w.heap.size + 1) 3 [.int .u32 id, .bool ext, .int .i64 n, .int .u8 0, .int .u8 0, .int .u8 0, .int .u8 0, .int .u8 0, .int .u8 0, .int .u8 0, .int .u8 0] 26 (blk_new (by simp)) (u8s bs) (by show _ = min _ _; simp [u8s]; omega) (fun hp => ⟨rfl, ?src⟩) (by simp [u8s]; omega) (u8s_one _) (w.heap.size + 1) _ (Below.refl _ _) (Nat.le_refl _) ?_))
  case src =>
    obtain ⟨ad, e, _, hc⟩ := (hr.ext (((Ext.refl _).alloc _).alloc _)).shows.2 (by simp [u8s] at hp; omega)
    exact ⟨ad, e, hc⟩
  intro w4 hg4 hb4
  have hx4 : Ext w w4 := (((Ext.refl _).alloc _).alloc _).trans' hb4
  have hz : w4.heap[w.heap.size]? = some (.cells (#[.int .u32 0, .bool false, .int .i64 0, .int .u8 0, .int .u8 0, .int .u8 0, .int .u8 0, .int .u8 0, .int .u8 0, .int .u8 0, .int .u8 0]) 26 (0, 0)) := (hb4.block _ (by omega)).trans (blk_of ((Ext.refl _).alloc _))
  obtain ⟨x0, x1, x2, x3, x4, x5, x6, x7, hx⟩ := list8 (padZ_len (bs := bs) (by omega))
  have hr4 : w4.heap[w.heap.size + 1]? = some (.cells (#[.int .u32 id, .bool ext, .int .i64 n, .int .u8 x0, .int .u8 x1, .int .u8 x2, .int .u8 x3, .int .u8 x4, .int .u8 x5, .int .u8 x6, .int .u8 x7]) 26 (0, 0)) := by
    rw [hg4.out]
    have e : splice [.int .u32 id, .bool ext, .int .i64 n, .int .u8 0, .int .u8 0, .int .u8 0, .int .u8 0, .int .u8 0, .int .u8 0, .int .u8 0, .int .u8 0] 3 (u8s bs) = .int .u32 id :: .bool ext :: .int .i64 n :: u8s (padZ bs) := by
      have e2 : u8s (padZ bs) = u8s bs ++ (List.replicate 8 (Value.int .u8 0)).drop bs.length := by rw [List.drop_replicate]; simp [padZ, u8s]
      rw [e2]
      simp [splice, u8s, show 3 + bs.length = bs.length + 1 + 1 + 1 by omega]
    rw [e, hx]
    rfl
  have HX := Lib.hid hx; clear hx hg4
  go_wp2_with (first
    | (refine wpList_ldrow rfl 26 (.tmp 8) rfl hr4 rfl Try.underlying26 rfl (by kernel_rfl) ?_)
    | (refine wpList_strow rfl 26 (.tmp 6) (.tmp 27) rfl hz rfl rfl (by kernel_rfl) rfl (all1 (by decide)) ?_; intro w5 hg5 hw5))
  refine bodyPost_ret (results_row2 rfl rfl hg5.out Try.underlying26 rfl (by kernel_rfl)) rfl ⟨x0, x1, x2, x3, x4, x5, x6, x7, HX.out, rfl, hx4.of_grown hw5 (fun k hk => by simp at hk; omega)⟩
end Go.Proofs.Ytafdbhajngoafaa
