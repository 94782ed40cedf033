import Derived.Test.YtpjficfmmfdbjaaE
import Derived.Laws.AppendOwnNone
set_option linter.unusedVariables false
set_option linter.unusedSimpArgs false
namespace Go.Proofs.Ytpjficfmmfdbjaa
open Go.RowKit
def cut40 (s : ByteArray) : ByteArray := s.extract 0 (min s.size 40)
def OutX (s : ByteArray) (ar aa wd : Int) (bg sg : Bool) (mu ad : Int) (b : Nat) (w : World) (v : Value) : Prop :=
  ∃ g c cs fr, v = .slice (some ⟨g, 0, none⟩) 1 c ∧ b ≤ g ∧ w.heap[g]? = some (.cells (#[.string (cut40 s), .int .u8 ar, .int .u32 aa, .int .i64 wd, .bool bg, .bool sg, .int .i32 mu, .int .i32 ad] ++ cs) 24 fr)
theorem el26 : Elem Try.prog 26 24 8 48 (.agg #[.string ⟨#[]⟩, .int .u8 0, .int .u32 0, .int .i64 0, .bool false, .bool false, .int .i32 0, .int .i32 0]) := Elem.mk' Try.underlying26 (by kernel_rfl) rfl (by omega)
theorem shows_blk {w : World} {g : Nat} {cs : Array Value} {t : TypeId} {fr : Nat × Nat} {n : Nat} (K : w.heap[g]? = some (.cells cs t fr)) (h : cs.size = n * 8) : Shows w 8 (some ⟨g, 0, none⟩) n cs.toList := by
  refine ⟨by simpa using h, fun _ => ⟨_, rfl, blk_lt K, fun j u hu => ?_⟩⟩
  have e : (Addr.mk g 0 none).add j = ⟨g, j, none⟩ := by simp [Addr.add]; intro h; omega
  rw [e]
  exact blk_cell K (by simpa using hu)
theorem shows_new {w : World} {g : Nat} {x0 x1 x2 x3 x4 x5 x6 x7 : Value} {t : TypeId} (h : g = w.heap.size) : Shows (w.alloc (.cells #[x0, x1, x2, x3, x4, x5, x6, x7] t)) 8 (some ⟨g, 0, none⟩) 1 (#[x0, x1, x2, x3, x4, x5, x6, x7] : Array Value).toList := by
  subst h
  exact shows_blk (n := 1) (blk_of (Ext.refl _)) rfl
theorem one8 {s : ByteArray} {ar aa wd : Int} {bg sg : Bool} {mu ad : Int} : ∀ u ∈ (#[.string s, .int .u8 ar, .int .u32 aa, .int .i64 wd, .bool bg, .bool sg, .int .i32 mu, .int .i32 ad] : Array Value).toList, u.oneCell' = true := by
  intro u hu
  simp at hu
  rcases hu with rfl | rfl | rfl | rfl | rfl | rfl | rfl | rfl <;> rfl
theorem own_none {w : World} {b : Nat} : w.ownsRow b 24 8 (.slice none 0 0) 0 [] := ⟨rfl, .inl ⟨rfl, rfl⟩⟩
theorem cut_le {s : ByteArray} (h : s.size ≤ 40) : cut40 s = s := by unfold cut40; rw [Nat.min_eq_left h]; exact ByteArray.extract_zero_size
theorem cut_gt {s : ByteArray} (h : ¬ s.size ≤ 40) : cut40 s = s.extract 0 40 := by unfold cut40; rw [Nat.min_eq_right (by omega)]
theorem outx_of {s : ByteArray} {ar aa wd : Int} {bg sg : Bool} {mu ad : Int} {w : World} {b b0 : Nat} {v : Value} (hbb : b0 ≤ b) (h : w.ownsRow b 24 8 v (0 + 1) ([] ++ (#[.string (cut40 s), .int .u8 ar, .int .u32 aa, .int .i64 wd, .bool bg, .bool sg, .int .i32 mu, .int .i32 ad]).toList)) : OutX s ar aa wd bg sg mu ad b0 w v := by
  rcases h.2 with ⟨_, h⟩ | ⟨g, cap, cur, rfl, hbg, hg, _, _, hz, ht⟩
  · omega
  · refine ⟨g, cap, (cur.toList.drop 8).toArray, (0, 0), rfl, by omega, ?_⟩
    rw [hg]
    have e : cur = (#[.string (cut40 s), .int .u8 ar, .int .u32 aa, .int .i64 wd, .bool bg, .bool sg, .int .i32 mu, .int .i32 ad] : Array Value) ++ (cur.toList.drop 8).toArray := by
      apply Array.toList_inj.1
      rw [Array.toList_append]
      conv => lhs; rw [← List.take_append_drop 8 cur.toList]
      rw [show (0 + 1) * 8 = 8 from rfl] at ht
      rw [ht]
      simp
    rw [← e]
theorem cells8a {w : World} {g : Nat} {t : TypeId} {fr : Nat × Nat} {x0 x1 x2 x3 x4 x5 x6 x7 : Value} {cs : Array Value} (h : w.heap[g]? = some (.cells (#[x0, x1, x2, x3, x4, x5, x6, x7] ++ cs) t fr)) :
    w.cell? ⟨g, 0, none⟩ = some x0 ∧ w.cell? ⟨g, 1, none⟩ = some x1 ∧ w.cell? ⟨g, 2, none⟩ = some x2 ∧ w.cell? ⟨g, 3, none⟩ = some x3 ∧ w.cell? ⟨g, 4, none⟩ = some x4 ∧ w.cell? ⟨g, 5, none⟩ = some x5 ∧ w.cell? ⟨g, 6, none⟩ = some x6 ∧ w.cell? ⟨g, 7, none⟩ = some x7 := by
  refine ⟨blk_cell h ?_, blk_cell h ?_, blk_cell h ?_, blk_cell h ?_, blk_cell h ?_, blk_cell h ?_, blk_cell h ?_, blk_cell h ?_⟩ <;> (rw [Array.getElem?_append_left (by simp)]; rfl)
set_option maxRecDepth 100000 in
set_option maxHeartbeats 1000000 in
theorem few_one (s : ByteArray) (ar aa wd : Int) (bg sg : Bool) (mu ad : Int) (g c : Nat) (fr : Nat × Nat) (w : World) (hs : s.size ≤ maxLen) (K : w.heap[g]? = some (.cells #[.string s, .int .u8 ar, .int .u32 aa, .int .i64 wd, .bool bg, .bool sg, .int .i32 mu, .int .i32 ad] 24 fr)) :
    Calls Try.prog 9 #[.slice (some ⟨g, 0, none⟩) 1 c] w fun e w' => ∃ v, e = .returned v ∧ OutX s ar aa wd bg sg mu ad w.heap.size w' v ∧ Ext w w' := by
  unfold maxLen at hs
  obtain ⟨f0, f1, f2, f3, f4, f5, f6, f7⟩ := cells8 K
  go_enter Try.func9, Try.ntmps9
  go_wp2
  go_loopw [3, 8] (fun v3 i wc => ∃ k : Nat, i = .int .i64 k ∧ Ext w wc ∧ ((k = 0 ∧ v3 = .slice none 0 0) ∨ (k = 1 ∧ OutX s ar aa wd bg sg mu ad w.heap.size wc v3))) (fun _ i _ => 1 - (intOf i).toNat)
  case atStart => exact ⟨0, rfl, Ext.refl _, Or.inl ⟨rfl, rfl⟩⟩
  case round =>
    obtain ⟨k, rfl, xc, hr⟩ := hrel
    rcases hr with ⟨rfl, rfl⟩ | ⟨rfl, hO⟩
    · have K1 := (xc.block _ (blk_lt K)).trans K
      obtain ⟨f0, f1, f2, f3, f4, f5, f6, f7⟩ := cells8 K1
      by_cases hl : s.size ≤ 40
      · have HC := Lib.hid (cut_le hl)
        go_upto_region 7 with (fail)
        go_wp2_with (at_builtin; refine wpList_app el26 rfl _ _ rfl own_none rfl (shows_new (Array.size_push _).symm) rfl one8 (le_max (by omega)) (by omega) rfl (((Ext.refl wr).alloc _).alloc _) ?_; intro v9 w9 hown9 x9 hg9 hat9)
        go_round
        case rel => exact ⟨1, by go_num, xc.trans x9, Or.inr ⟨rfl, outx_of xc.size (by rw [HC.out]; exact hown9)⟩⟩
        case measure => simp [intOf]
      · have HC := Lib.hid (cut_gt hl)
        go_upto_region 7 with (fail)
        go_wp2_with (at_builtin; refine wpList_app el26 rfl _ _ rfl own_none rfl (shows_new (Array.size_push _).symm) rfl one8 (le_max (by omega)) (by omega) rfl (((Ext.refl wr).alloc _).alloc _) ?_; intro v9 w9 hown9 x9 hg9 hat9)
        go_round
        case rel => exact ⟨1, by go_num, xc.trans x9, Or.inr ⟨rfl, outx_of xc.size (by rw [HC.out]; exact hown9)⟩⟩
        case measure => simp [intOf]
    · go_wp2
      go_ret
      exact ⟨_, rfl, hO, xc⟩
end Go.Proofs.Ytpjficfmmfdbjaa
