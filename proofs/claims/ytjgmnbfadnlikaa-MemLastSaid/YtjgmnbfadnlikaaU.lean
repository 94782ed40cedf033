import Derived.Test.YtjgmnbfadnlikaaT
set_option linter.unusedVariables false
set_option linter.unusedSimpArgs false
namespace Go.Proofs.Ytjgmnbfadnlikaa
open Go.RowKit
theorem few_any {w : World} (A : Option Addr) (n c : Nat) (hn : n ≤ c) (hc : c ≤ maxLen) : Calls Try.prog 12 #[.slice A n c] w fun e w' => e = .returned (.slice A (min n 60) c) ∧ w = w' := by
  unfold maxLen at hc
  obtain ⟨k, hk⟩ : ∃ k, k = min n 60 := ⟨_, rfl⟩
  have hmin : (if (60 : Int) < n then (60 : Int) else n) = k := by split <;> omega
  have h1 : k ≤ c := by omega
  have h2 : (k : Int) ≤ c := by omega
  rw [← hk]
  clear hk
  go_enter Try.func12, Try.ntmps12
  go_wp2
  go_ret
  exact ⟨rfl, rfl⟩
theorem el22 : Elem Try.prog 22 54 2 16 (.agg #[.int .i64 0, .int .i64 0]) := Elem.mk' Try.underlying22 (by kernel_rfl) rfl (by omega)
def SM.good (s : SM) : SM := ⟨min (max s.len 1) 16, min (max s.pages 2) 4⟩
def MP.good (m : MP) (k : Nat) : MP := ⟨min (max m.ram 8) 64, (m.segs.take (min k 4)).map SM.good, []⟩
set_option maxHeartbeats 2000000 in
theorem good_any {w : World} {m : MP} {sA fA : Option Addr} {sc fc : Nat} (h : MpR w m sA fA sc fc) : Calls Try.prog 20 #[.agg #[.int .i64 m.ram, .slice sA m.segs.length sc, .slice fA m.flash.length fc]] w fun e w' => ∃ sA' sc', e = .returned (.agg #[.int .i64 (m.good m.segs.length).ram, .slice sA' (m.good m.segs.length).segs.length sc', .slice none 0 0]) ∧ Ext w w' ∧ MpR w' (m.good m.segs.length) sA' none sc' 0 := by
  obtain ⟨w1, hw1⟩ : ∃ V, V = w.alloc (.cells #[.int .i64 m.ram, .slice sA m.segs.length sc, .slice fA m.flash.length fc] 25) := ⟨_, rfl⟩
  have K1 : w1.heap[w.heap.size]? = some (.cells #[.int .i64 m.ram, .slice sA m.segs.length sc, .slice fA m.flash.length fc] 25 (0, 0)) := by rw [hw1]; exact heap_alloc_new _ _
  have x1 : Ext w w1 := by rw [hw1]; exact (Ext.refl _).alloc _
  obtain ⟨f0, f1, f2⟩ := cells3 K1
  go_enter Try.func20, Try.ntmps20
  go_upto_region 1 with (fail)
  rw [← hw1]
  obtain ⟨w2, hw2⟩ : ∃ V, V = w1.alloc (.cells #[.int .i64 0, .slice none 0 0, .slice none 0 0] 25) := ⟨_, rfl⟩
  have hsz : w.heap.size + 1 = w1.heap.size := by rw [hw1]; exact (Array.size_push _).symm
  have K2 : w2.heap[w1.heap.size]? = some (.cells #[.int .i64 0, .slice none 0 0, .slice none 0 0] 25 (0, 0)) := by rw [hw2]; exact heap_alloc_new _ _
  have x2 : Ext w1 w2 := by rw [hw2]; exact (Ext.refl _).alloc _
  rw [← hw2, hsz]
  clear hw1 hw2 hsz
  obtain ⟨f0, f1, f2⟩ := cells3 ((x2.block _ (blk_lt K1)).trans K1)
  obtain ⟨r, hr⟩ : ∃ r, r = (m.good m.segs.length).ram := ⟨_, rfl⟩
  obtain ⟨r0, hr0⟩ : ∃ r0, (if m.ram < 8 then 8 else m.ram) = r0 := ⟨_, rfl⟩
  have hrm : (if (64 : Int) < r0 then 64 else r0) = r := by rw [hr, ← hr0]; unfold MP.good; simp only; split <;> split <;> omega
  have HR := Lib.hid hr
  clear hr
  go_upto_region 2 with (fail)
  obtain ⟨w3, hw3⟩ : ∃ V, V = w2.alloc (.cells #[.int .i64 r, .slice none 0 0, .slice none 0 0] 25) := ⟨_, rfl⟩
  have K3 : w3.heap[w2.heap.size]? = some (.cells #[.int .i64 r, .slice none 0 0, .slice none 0 0] 25 (0, 0)) := by rw [hw3]; exact heap_alloc_new _ _
  have x3 : Ext w2 w3 := by rw [hw3]; exact (Ext.refl _).alloc _
  have hs3 : w3.heap.size = w2.heap.size + 1 := by rw [hw3]; exact Array.size_push _
  rw [← hw3]
  clear hw3 f0 f1 f2 hrm hr0
  obtain ⟨f0, f1, f2⟩ := cells3 (((x2.trans x3).block _ (blk_lt K1)).trans K1)
  have HH := Lib.hid h
  have HX := Lib.hid x1
  have HK1 := Lib.hid K1
  have HK2 := Lib.hid K2
  have hn := h.sm
  unfold maxLen at hn
  clear h x1 K1 K2
  go_upto_region 3 with (fail)
  clear f0 f1 f2
  go_loopw [14] (fun v wr => ∃ (k : Nat) (sv : Value), v = .int .i64 k ∧ k ≤ m.segs.length ∧ wr.ownsRow (w2.heap.size + 1) 54 2 sv (min k 4) (((m.segs.take (min k 4)).map SM.good).flatMap SM.vals) ∧ wr.heap[w2.heap.size]? = some (.cells #[.int .i64 r, sv, .slice none 0 0] 25 (0, 0)) ∧ Ext w2 wr) (fun v _ => m.segs.length - (intOf v).toNat)
  case atStart => exact ⟨0, .slice none 0 0, rfl, Nat.zero_le _, ⟨rfl, .inl ⟨rfl, rfl⟩⟩, K3, x3⟩
  case round =>
    obtain ⟨k, sv, rfl, hk, own, K, xr⟩ := hrel
    clear K3 x3 hs3
    obtain ⟨vA, vc, rfl, hvc, hvm, _⟩ := own_form own
    by_cases hlt : k < m.segs.length
    · have hkn : (k : Int) < m.segs.length := by omega
      obtain ⟨s, hs⟩ : ∃ s, m.segs[k]? = some s := ⟨_, List.getElem?_eq_getElem hlt⟩
      obtain ⟨b, o, hA, hb, hrr⟩ := Shows.row sm_len (by omega) (HH.out.segs.ext (HX.out.trans (x2.trans xr))) rfl hs
      subst hA
      have HO := Lib.hid own
      have HK := Lib.hid K
      have HS := Lib.hid hs
      clear own K hs
      go_upto_region 5 with (first | refine wpList_load_mid rfl 54 _ rfl _ _ rfl s.vals _ hrr Try.underlying54 rfl size54 ?_ | refine wpList_stnew rfl 54 _ _ rfl rfl s.vals rfl rfl size54 rfl (sm_one s) ?_)
      obtain ⟨w4, hw4⟩ : ∃ V, V = wr.alloc (.cells s.vals.toArray 54) := ⟨_, rfl⟩
      have k4 : w4.heap[wr.heap.size]? = some (.cells #[.int .i64 s.len, .int .i64 s.pages] 54 (0, 0)) := by rw [hw4]; exact heap_alloc_new _ _
      have x4 : Ext wr w4 := by rw [hw4]; exact (Ext.refl _).alloc _
      rw [← hw4]
      clear hw4 hrr
      by_cases h4 : k < 4
      · have h4' : (k : Int) < 4 := by omega
        have hm1 : min k 4 = k := by omega
        have hm2 : min (k + 1) 4 = k + 1 := by omega
        obtain ⟨m0, m1⟩ := cells2 k4
        have K4 := (x4.block _ (blk_lt HK.out)).trans HK.out
        obtain ⟨t0, t1, t2⟩ := cells3 K4
        have z1 := blk_free (i := 1) K4
        obtain ⟨l, hl⟩ : ∃ l, l = s.good.len := ⟨_, rfl⟩
        obtain ⟨p, hp⟩ : ∃ p, p = s.good.pages := ⟨_, rfl⟩
        obtain ⟨l0, hl0⟩ : ∃ r0, (if s.len < 1 then 1 else s.len) = r0 := ⟨_, rfl⟩
        obtain ⟨p0, hp0⟩ : ∃ r0, (if s.pages < 2 then 2 else s.pages) = r0 := ⟨_, rfl⟩
        have hlm : (if (16 : Int) < l0 then 16 else l0) = l := by rw [hl, ← hl0]; unfold SM.good; simp only; split <;> split <;> omega
        have hpm : (if (4 : Int) < p0 then 4 else p0) = p := by rw [hp, ← hp0]; unfold SM.good; simp only; split <;> split <;> omega
        obtain ⟨w5, hw5⟩ : ∃ V, V = w4.alloc (.cells #[.int .i64 l, .int .i64 p] 54) := ⟨_, rfl⟩
        have x5 : Ext w4 w5 := by rw [hw5]; exact (Ext.refl _).alloc _
        have sh5 : Shows w5 2 (some ⟨w4.heap.size, 0, none⟩) 1 [.int .i64 l, .int .i64 p] := by
          rw [hw5]
          have K := heap_alloc_new w4 (.cells #[.int .i64 l, .int .i64 p] 54)
          exact ⟨rfl, fun _ => ⟨_, rfl, blk_lt K, fun j u hu => by have := cells_of_blk (off := 0) K j u (by simpa using hu); exact this⟩⟩
        have own5 := own_ext HO.out (x4.trans x5)
        have K5 := (x5.block _ (blk_lt K4)).trans K4
        have one2 : ∀ u ∈ ([.int .i64 l, .int .i64 p] : List Value), u.oneCell' = true := by
          intro u hu
          simp at hu
          rcases hu with rfl | rfl <;> rfl
        have H1 := Lib.hid (show l = s.good.len ∧ p = s.good.pages from ⟨hl, hp⟩)
        have H2 := Lib.hid (show min k 4 = k ∧ min (k + 1) 4 = k + 1 from ⟨hm1, hm2⟩)
        rw [hm1] at own5 HO HK K5 K4 t1 hvc
        have HK4 := Lib.hid K4
        have HK5 := Lib.hid K5
        clear hl hp hm1 hm2 K4 K5
        go_upto_region 7 with (at_builtin; rw [← hw5]; refine wpList_appB el22 rfl _ _ rfl own5 rfl sh5 rfl one2 (le_max (by omega)) (by omega) (by have := xr.size; have := x4.size; have := x5.size; have := blk_lt HK.out; omega) ?_; intro v9 w9 own9 gr9 at9; obtain ⟨B9, c9, rfl, _, _⟩ := own9.form (by omega); have hne : ∀ q, Value.ownBlock (.slice vA k vc) = some q → w2.heap.size ≠ q := (fun q e => by have := (HO.out.lt q e).1; omega); have K9 : w9.heap[w2.heap.size]? = _ := (grown_lt HK5.out gr9 (fun e => hne _ e.symm rfl)); obtain ⟨c91, c92, c93⟩ := cells3 K9; have z9 := blk_free (i := 1) K9; have HK9 := Lib.hid K9; clear K9)
        obtain ⟨W, hW, KW, xW⟩ := set_new 1 (.slice (some ⟨B9, 0, none⟩) (k + 1) c9) HK9.out
        rw [← hW]
        clear hW
        go_wp2
        go_roundw
        case rel =>
          have hB9 := (own9.lt B9 rfl).1
          refine ⟨k + 1, _, by go_num, by omega, ?_, KW, Ext.of_grown (Ext.of_grown (xr.trans (x4.trans x5)) gr9 (fun q e => by have := (HO.out.lt q e).1; omega)) xW (fun q e => by injection e with e; omega)⟩
          rw [H2.out.2]
          have own10 := own_grow own9 xW (fun q e h => by have := (own9.lt q e).1; injection h with h; omega)
          rw [H1.out.1, H1.out.2] at own10
          rw [List.take_add_one, HS.out]
          simp only [Option.toList_some, List.map_append, List.map_cons, List.map_nil, List.flatMap_append, List.flatMap_cons, List.flatMap_nil, List.append_nil]
          exact own10
        case measure => simp [intOf]; omega
      · have h4' : ¬ (k : Int) < 4 := by omega
        have hm1 : min (k + 1) 4 = min k 4 := by omega
        have HM := Lib.hid hm1
        clear hm1
        go_wp2
        go_roundw
        case rel => exact ⟨k + 1, _, by go_num, by omega, by rw [HM.out]; exact own_ext HO.out x4, (x4.block _ (blk_lt HK.out)).trans HK.out, xr.trans x4⟩
        case measure => simp [intOf]; omega
    · obtain rfl : k = m.segs.length := by omega
      have hK2 := (xr.block _ (blk_lt HK2.out)).trans HK2.out
      have HO := Lib.hid own
      go_wp2_with (first
        | refine wpList_ldrow rfl 25 (.tmp 3) rfl K rfl Try.underlying25 rfl (by kernel_rfl) ?_
        | (refine wpList_strow rfl 25 (.tmp 2) (.tmp 36) rfl hK2 rfl rfl (by kernel_rfl) rfl (by simp [Value.oneCell']) ?_; intro w6 hg6 gr6))
      refine bodyPost_ret (results_cell_row rfl _ _ _ _ _ _ _ rfl hg6.out Try.underlying25 rfl (by kernel_rfl)) rfl ?_
      have e1 : (m.good m.segs.length).segs.length = min m.segs.length 4 := by simp only [MP.good, List.length_map, List.length_take]; omega
      have hb6 : w1.heap.size < w2.heap.size := blk_lt HK2.out
      have own6 := own_grow HO.out gr6 (fun q e h => by have := (HO.out.lt q e).1; injection h with h; omega)
      refine ⟨vA, vc, by rw [e1, HR.out], ?_, ⟨?_, Shows.nil, by simp [MP.good], ?_, ⟨Nat.le_refl _, by unfold maxLen; omega⟩⟩⟩
      · exact Ext.of_grown (HX.out.trans (x2.trans xr)) gr6 (fun q e => by injection e with e; have := HX.out.size; omega)
      · rw [e1]
        have := Shows.of_own own6
        simpa only [MP.good] using this
      · rw [e1]
        exact ⟨hvc, by assumption⟩
end Go.Proofs.Ytjgmnbfadnlikaa
