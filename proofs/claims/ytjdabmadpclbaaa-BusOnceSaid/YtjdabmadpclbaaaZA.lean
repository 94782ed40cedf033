import Derived.Test.YtjdabmadpclbaaaZ
set_option linter.unusedVariables false
set_option linter.unusedSimpArgs false
namespace Go.Proofs.Ytjdabmadpclbaaa
open Go.RowKit
theorem fi_step {l : List Fi} {f : Fr} {k : Nat} {y : Fi} (h : letTo l f k) (hy : l[k]? = some y) (hf : fits y f = false) : letTo l f (k + 1) := fun j z hj hz => by
  rcases Nat.lt_or_ge j k with g | g
  · exact h j z g hz
  · obtain rfl : j = k := by omega
    rw [hy] at hz; injection hz with hz; subst hz; exact hf
set_option maxHeartbeats 4000000 in
theorem rlets_any {w : World} {g : Nat} {s : BSt} {F : Nat → Prop} (h : BxC w 53 g s F) (f : Fr) (hfo : f.ok) : Calls Try.prog 42 #[.pointer (some ⟨g, 0, none⟩), .agg f.vals.toArray] w fun e w' => e = .returned (.bool (f.may && s.lets f)) ∧ Ext w w' := by
  obtain ⟨_, fA, fc, tA, tc, rA, rc, h⟩ := h
  have K := h.row
  have hs := Shows.of_own h.fil
  have hl8 := h.ok.nf
  have hlo := h.ok.fl
  clear h
  unfold BSt.lets
  generalize hfl : s.fl = l at *
  have MF := Lib.hid (fun W => rmay_fr f W)
  obtain ⟨may, hmay⟩ : ∃ may, f.may = may := ⟨_, rfl⟩
  rw [hmay] at MF ⊢
  clear hmay
  obtain ⟨w0, hw0⟩ : ∃ V, V = w.alloc (.cells f.vals.toArray 34) := ⟨_, rfl⟩
  have k0 : w0.heap[w.heap.size]? = some (.cells f.vals.toArray 34 (0, 0)) := by rw [hw0]; exact heap_alloc_new _ _
  have x0 : Ext w w0 := by rw [hw0]; exact (Ext.refl _).alloc _
  go_enter Try.func42, Try.ntmps42
  go_wp2
  rw [← hw0]
  go_loopw [5] (fun i wr => ∃ k : Nat, i = .int .i64 k ∧ k ≤ l.length ∧ (may = true → letTo l f k) ∧ Ext w0 wr) (fun i _ => l.length - (intOf i).toNat)
  case atStart => exact ⟨0, rfl, by omega, fun _ j x h => by omega, Ext.refl _⟩
  case round =>
    obtain ⟨k, rfl, hk, hto, x⟩ := hrel
    have Kr := ((x0.trans x).block _ (blk_lt K)).trans K
    obtain ⟨f0, f1, f2, f3⟩ := cells4 Kr
    have kf := (x.block _ (blk_lt k0)).trans k0
    have hsz := blk_lt kf
    have TO := Lib.hid hto
    clear hto
    by_cases hlt : k < l.length
    · have hy := List.getElem?_eq_getElem hlt
      generalize l[k] = y at hy
      obtain ⟨b, o, rfl, hb, hr⟩ := Shows.fi (hs.ext (x0.trans x)) rfl hy
      have hyo := hlo y (List.mem_of_getElem? hy)
      have HY := Lib.hid hy
      clear hy
      have hkl : (k : Int) < l.length := by omega
      have hk0 : (0 : Int) ≤ k := by omega
      go_upto_region 5 with (first | refine wpList_load_mid rfl 61 _ rfl _ _ rfl y.vals _ hr Try.underlying61 rfl size53 ?_ | refine wpList_stnew rfl 61 _ _ rfl rfl y.vals rfl rfl size53 rfl (fi_one y) ?_)
      obtain ⟨w1, hw1⟩ : ∃ V, V = wr.alloc (.cells y.vals.toArray 61) := ⟨_, rfl⟩
      have k1 : w1.heap[wr.heap.size]? = some (.cells y.vals.toArray 61 (0, 0)) := by rw [hw1]; exact heap_alloc_new _ _
      have x1 : Ext wr w1 := by rw [hw1]; exact (Ext.refl _).alloc _
      rw [← hw1]
      clear hw1 f0 f1 f2 f3 hr
      have kf1 := (x1.block _ (blk_lt kf)).trans kf
      obtain ⟨m, i, e⟩ := y
      cases may
      · go_wp2_with (first | refine wpList_ldrow rfl 34 _ rfl kf1 rfl Try.underlying34 rfl size37 ?_ | (go_at_call 23; (refine (MF.out _).mono ?_); rintro e w2 ⟨rfl, x2⟩))
        go_roundw
        case rel => exact ⟨k + 1, by go_num, by omega, (fun h => by cases h), (x.trans x1).trans x2⟩
        case measure => simp [intOf]; omega
      · have SM := Lib.hid (fun W => same_any m i f.id W hyo.1 hyo.2 hfo)
        rcases he : (e == f.ext) with _ | _
        · have hf : fits ⟨m, i, e⟩ f = false := by simp [fits, he]
          have HF := Lib.hid hf
          clear hf
          go_wp2_with (first | refine wpList_ldrow rfl 34 _ rfl kf1 rfl Try.underlying34 rfl size37 ?_ | (go_at_call 23; (refine (MF.out _).mono ?_); rintro e w2 ⟨rfl, x2⟩; obtain ⟨c0, c1, c2⟩ : w2.cell? ⟨wr.heap.size, 0, none⟩ = some (.int .u32 m) ∧ w2.cell? ⟨wr.heap.size, 1, none⟩ = some (.int .u32 i) ∧ w2.cell? ⟨wr.heap.size, 2, none⟩ = some (.bool e) := (by have q := (x2.block _ (blk_lt k1)).trans k1; refine ⟨?_, ?_, ?_⟩ <;> (rw [cell_of_row _ _ _ _ _ _ q]; rfl)); obtain ⟨g0, g1⟩ := fr_01 (frAt ((x2.block _ (blk_lt kf1)).trans kf1))))
          go_roundw
          case rel => exact ⟨k + 1, by go_num, by omega, (fun h => fi_step (TO.out h) HY.out HF.out), (x.trans x1).trans x2⟩
          case measure => simp [intOf]; omega
        · rcases hz : (bits .and .u32 (bits .xor .u32 i f.id) m == 0) with _ | _
          · have hf : fits ⟨m, i, e⟩ f = false := by simp [fits, he, hz]
            have HF := Lib.hid hf
            rw [hz] at SM
            clear hf hz
            go_wp2_with (first | refine wpList_ldrow rfl 34 _ rfl kf1 rfl Try.underlying34 rfl size37 ?_ | (go_at_call 23; (refine (MF.out _).mono ?_); rintro e w2 ⟨rfl, x2⟩; obtain ⟨c0, c1, c2⟩ : w2.cell? ⟨wr.heap.size, 0, none⟩ = some (.int .u32 m) ∧ w2.cell? ⟨wr.heap.size, 1, none⟩ = some (.int .u32 i) ∧ w2.cell? ⟨wr.heap.size, 2, none⟩ = some (.bool e) := (by have q := (x2.block _ (blk_lt k1)).trans k1; refine ⟨?_, ?_, ?_⟩ <;> (rw [cell_of_row _ _ _ _ _ _ q]; rfl)); obtain ⟨g0, g1⟩ := fr_01 (frAt ((x2.block _ (blk_lt kf1)).trans kf1))) | (go_at_call 44; (refine (SM.out _).mono ?_); rintro e w3 ⟨rfl, x3⟩))
            go_roundw
            case rel => exact ⟨k + 1, by go_num, by omega, (fun h => fi_step (TO.out h) HY.out HF.out), ((x.trans x1).trans x2).trans x3⟩
            case measure => simp [intOf]; omega
          · have hf : fits ⟨m, i, e⟩ f = true := by simp [fits, he, hz]
            have FIN := Lib.hid (lets_true HY.out hf)
            rw [hz] at SM
            clear hf hz
            go_wp2_with (first | refine wpList_ldrow rfl 34 _ rfl kf1 rfl Try.underlying34 rfl size37 ?_ | (go_at_call 23; (refine (MF.out _).mono ?_); rintro e w2 ⟨rfl, x2⟩; obtain ⟨c0, c1, c2⟩ : w2.cell? ⟨wr.heap.size, 0, none⟩ = some (.int .u32 m) ∧ w2.cell? ⟨wr.heap.size, 1, none⟩ = some (.int .u32 i) ∧ w2.cell? ⟨wr.heap.size, 2, none⟩ = some (.bool e) := (by have q := (x2.block _ (blk_lt k1)).trans k1; refine ⟨?_, ?_, ?_⟩ <;> (rw [cell_of_row _ _ _ _ _ _ q]; rfl)); obtain ⟨g0, g1⟩ := fr_01 (frAt ((x2.block _ (blk_lt kf1)).trans kf1))) | (go_at_call 44; (refine (SM.out _).mono ?_); rintro e w3 ⟨rfl, x3⟩))
            go_ret
            exact ⟨by rw [FIN.out]; rfl, (((x0.trans x).trans x1).trans x2).trans x3⟩
    · obtain rfl : k = l.length := by omega
      go_wp2
      go_ret
      refine ⟨?_, x0.trans x⟩
      cases may
      · rfl
      · rw [lets_false (TO.out rfl)]; rfl
end Go.Proofs.Ytjdabmadpclbaaa
