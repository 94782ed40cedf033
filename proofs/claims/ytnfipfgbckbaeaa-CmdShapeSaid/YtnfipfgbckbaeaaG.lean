import Derived.Test.YtnfipfgbckbaeaaF
set_option linter.unusedVariables false
namespace Go.Proofs.Ytnfipfgbckbaeaa
open Go.RowKit
theorem str {w : World} {A : Option Addr} {n c : Nat} {bs : List Int} (hr : Rd w A n bs) : (convert 24 9 (.slice A n c)).run Try.prog w = .ok (.string (strOfNums bs)) w := run_str Try.underlying24 Try.underlying5 Try.underlying9 hr
theorem run_eq5 (d : Nat) (w : World) (x0 x1 x2 x3 x4 y0 y1 y2 y3 y4 : Int) :
    (Op.equalIn (d + 2) 22 (.agg #[.int .u8 x0, .int .u8 x1, .int .u8 x2, .int .u8 x3, .int .u8 x4]) (.agg #[.int .u8 y0, .int .u8 y1, .int .u8 y2, .int .u8 y3, .int .u8 y4])).run Try.prog w =
    .ok ([x0, x1, x2, x3, x4] == [y0, y1, y2, y3, y4]) w := by
  rw [Op.equalIn]
  simp only [Sem.run_bind, run_underlying Try.underlying22, Result.andThen_ok, size5]
  simp [List.range', List.forIn_cons, go_sem]
  repeat' split
  all_goals simp_all
theorem run_eql5 (w : World) (x0 x1 x2 x3 x4 y0 y1 y2 y3 y4 : Int) :
    (Op.equalIn 10000 22 (.agg #[.int .u8 x0, .int .u8 x1, .int .u8 x2, .int .u8 x3, .int .u8 x4]) (.agg #[.int .u8 y0, .int .u8 y1, .int .u8 y2, .int .u8 y3, .int .u8 y4])).run Try.prog w =
    .ok ([x0, x1, x2, x3, x4] == [y0, y1, y2, y3, y4]) w := run_eq5 9998 w ..
theorem results_row1 {P : Program} {w : World} {fn : Func} {p : Tmp} {ty : TypeId} (h : fn.results = #[.cell p ty]) {tmps : Array Value} {g : Nat} {t : TypeId} {cs : Array Value} {fr : Nat × Nat} {d : TypeDesc}
    (hp : tmps.getD p undef = .pointer (some ⟨g, 0, none⟩)) (hg : w.heap[g]? = some (.cells cs t fr))
    (hu : P.underlying ty = some d) (hd : (match d with | .struct _ | .array _ _ => true | _ => false) = true) (hi : (P.info? ty).map (·.size) = some cs.size) :
    (results fn tmps).run P w = .ok (.agg cs) w := results_cell_row h tmps w g t cs fr d hp hg hu hd hi
theorem few_any (c a0 a1 a2 a3 a4 W : Int) (A : Option Addr) (n cp : Nat) (w : World) (hn : n ≤ cp) (hc : cp ≤ maxLen) :
    Calls Try.prog 9 #[.agg #[.int .u8 c, .int .u8 a0, .int .u8 a1, .int .u8 a2, .int .u8 a3, .int .u8 a4, .int .u32 W, .slice A n cp]] w fun e w' => e = .returned (.agg #[.int .u8 c, .int .u8 a0, .int .u8 a1, .int .u8 a2, .int .u8 a3, .int .u8 a4, .int .u32 W, .slice A (min n 20) cp]) ∧ Ext w w' := by
  unfold maxLen at hc
  by_cases h20 : (20 : Int) < n
  · rw [show min n 20 = 20 by omega]
    have h20c : (20 : Int) ≤ cp := by omega
    go_enter Try.func9, Try.ntmps9
    go_wp2
    refine bodyPost_ret (results_row1 rfl rfl (blk_new (by simp)) Try.underlying26 rfl (by kernel_rfl)) rfl ⟨rfl, ((Ext.refl _).alloc _).alloc _⟩
  · rw [show min n 20 = n by omega]
    have hnc : (n : Int) ≤ cp := by omega
    go_enter Try.func9, Try.ntmps9
    go_wp2
    refine bodyPost_ret (results_row1 rfl rfl (blk_new (by simp)) Try.underlying26 rfl (by kernel_rfl)) rfl ⟨rfl, ((Ext.refl _).alloc _).alloc _⟩
theorem put_good (c a0 a1 a2 a3 a4 W : Int) (A : Option Addr) (n cp : Nat) (bs : List Int) (w : World) (h0 : 0 ≤ c) (h1 : c < 256) (hal : Byts [a0, a1, a2, a3, a4]) (W0 : 0 ≤ W) (W1' : W < 4294967296) (hr : Rd w A n bs) (hn : n ≤ 20) (hb : badC c [a0, a1, a2, a3, a4] W n = false) :
    Calls Try.prog 8 #[.agg #[.int .u8 c, .int .u8 a0, .int .u8 a1, .int .u8 a2, .int .u8 a3, .int .u8 a4, .int .u32 W, .slice A n cp]] w fun e w' => ∃ A' c', e = .returned (.tuple #[.slice A' (putN c n) c', .int .i64 0]) ∧ putN c n ≤ c' ∧ c' ≤ maxLen ∧ Ext w w' ∧ Rd w' A' (putN c n) (putL c [a0, a1, a2, a3, a4] W bs) :=
  (put_walk c a0 a1 a2 a3 a4 W A n cp bs w h0 h1 hal W0 W1' hr hn).mono fun e w' h => by
    rcases h with ⟨h, _⟩ | ⟨_, h⟩
    · rw [hb] at h; cases h
    · exact h
theorem put_bad (c a0 a1 a2 a3 a4 W : Int) (A : Option Addr) (n cp : Nat) (bs : List Int) (w : World) (h0 : 0 ≤ c) (h1 : c < 256) (hal : Byts [a0, a1, a2, a3, a4]) (W0 : 0 ≤ W) (W1' : W < 4294967296) (hr : Rd w A n bs) (hn : n ≤ 20) (hb : badC c [a0, a1, a2, a3, a4] W n = true) :
    Calls Try.prog 8 #[.agg #[.int .u8 c, .int .u8 a0, .int .u8 a1, .int .u8 a2, .int .u8 a3, .int .u8 a4, .int .u32 W, .slice A n cp]] w fun e w' => e = .returned (.tuple #[.slice none 0 0, .int .i64 1]) ∧ Ext w w' :=
  (put_walk c a0 a1 a2 a3 a4 W A n cp bs w h0 h1 hal W0 W1' hr hn).mono fun e w' h => by
    rcases h with ⟨_, h⟩ | ⟨h, _⟩
    · exact h
    · rw [hb] at h; cases h
theorem rput_good (c a0 a1 a2 a3 a4 W : Int) (A : Option Addr) (n cp : Nat) (bs : List Int) (w : World) (h0 : 0 ≤ c) (h1 : c < 256) (hal : Byts [a0, a1, a2, a3, a4]) (W0 : 0 ≤ W) (W1' : W < 4294967296) (hr : Rd w A n bs) (hn : n ≤ 20) (hb : badC c [a0, a1, a2, a3, a4] W n = false) :
    Calls Try.prog 10 #[.agg #[.int .u8 c, .int .u8 a0, .int .u8 a1, .int .u8 a2, .int .u8 a3, .int .u8 a4, .int .u32 W, .slice A n cp]] w fun e w' => ∃ A' c', e = .returned (.tuple #[.slice A' (putN c n) c', .int .i64 0]) ∧ putN c n ≤ c' ∧ c' ≤ maxLen ∧ Ext w w' ∧ Rd w' A' (putN c n) (putL c [a0, a1, a2, a3, a4] W bs) :=
  (rput_walk c a0 a1 a2 a3 a4 W A n cp bs w h0 h1 hal W0 W1' hr hn).mono fun e w' h => by
    rcases h with ⟨h, _⟩ | ⟨_, h⟩
    · rw [hb] at h; cases h
    · exact h
theorem rput_bad (c a0 a1 a2 a3 a4 W : Int) (A : Option Addr) (n cp : Nat) (bs : List Int) (w : World) (h0 : 0 ≤ c) (h1 : c < 256) (hal : Byts [a0, a1, a2, a3, a4]) (W0 : 0 ≤ W) (W1' : W < 4294967296) (hr : Rd w A n bs) (hn : n ≤ 20) (hb : badC c [a0, a1, a2, a3, a4] W n = true) :
    Calls Try.prog 10 #[.agg #[.int .u8 c, .int .u8 a0, .int .u8 a1, .int .u8 a2, .int .u8 a3, .int .u8 a4, .int .u32 W, .slice A n cp]] w fun e w' => e = .returned (.tuple #[.slice none 0 0, .int .i64 1]) ∧ Ext w w' :=
  (rput_walk c a0 a1 a2 a3 a4 W A n cp bs w h0 h1 hal W0 W1' hr hn).mono fun e w' h => by
    rcases h with ⟨_, h⟩ | ⟨h, _⟩
    · exact h
    · rw [hb] at h; cases h
theorem shown_s1 : ((strOfNums (putL 7 [4, 1, 0, 0, 0] 258 [])).toList == [7, 4, 1, 0, 0, 1, 2]) = true := by rw [ByteArray.toList_eq]; decide
theorem shown_s2 : ((strOfNums (putL 8 [9, 0, 0, 0, 0] 0 [1, 2, 3, 4, 5, 6])).toList == [8, 9, 1, 2, 3, 4, 5, 6]) = true := by rw [ByteArray.toList_eq]; decide
theorem shown_any (w : World) : Calls Try.prog 13 #[] w fun e w' => e = .returned (.bool true) ∧ Ext w w' := by
  have hs1 := shown_s1
  have hs2 := shown_s2
  have hb1 : badC 7 [4, 1, 0, 0, 0] 258 0 = false := by decide
  have hb2 : badC 8 [9, 0, 0, 0, 0] 0 6 = false := by decide
  have y1 : Byts [4, 1, 0, 0, 0] := by intro b hb; simp at hb; omega
  have y2 : Byts [9, 0, 0, 0, 0] := by intro b hb; simp at hb; omega
  have y3 : Byts [1, 2, 3, 4, 5, 6] := by intro b hb; simp at hb; omega
  go_enter Try.func13, Try.ntmps13
  go_upto_region 2 with (go_at_call 8; refine (put_good 7 4 1 0 0 0 258 none 0 0 [] w (by omega) (by omega) y1 (by omega) (by omega) Rd.nil (by omega) hb1).mono ?_; rintro e w1 ⟨A1, c1, rfl, l1, m1, x1, r1⟩)
  have R2 : Rd (w1.alloc (.cells #[.int .u8 1, .int .u8 2, .int .u8 3, .int .u8 4, .int .u8 5, .int .u8 6] 5)) (some ⟨w1.heap.size, 0, none⟩) 6 [1, 2, 3, 4, 5, 6] := rd_new (W := w1) (cs := [1, 2, 3, 4, 5, 6]) 5 rfl y3
  have RR := Lib.hid R2
  clear R2
  go_upto_region 3 with (go_at_call 8; refine (put_good 8 9 0 0 0 0 0 _ 6 6 _ _ (by omega) (by omega) y2 (by omega) (by omega) RR.out (by omega) hb2).mono ?_; rintro e w2 ⟨A2, c2, rfl, l2, m2, x2, r2⟩)
  have s1 := str (c := c1) (r1.ext (((Ext.refl _).alloc _).trans x2))
  have s2 := str (c := c2) r2
  go_wp2
  go_ret
  exact ⟨by simp, x1.trans (((Ext.refl _).alloc _).trans x2)⟩
end Go.Proofs.Ytnfipfgbckbaeaa
