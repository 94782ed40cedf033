import Derived.Test.YtdhdkjiphapliaaQ
import Derived.Test.YtdhdkjiphapliaaReg
set_option linter.unusedVariables false
set_option linter.unusedSimpArgs false
namespace Go.Proofs.Ytdhdkjiphapliaa
open Go.RowKit
/-- a packet laid anew: behind a statement that made one. -/
structure NewP (wo wx : World) (gA : Nat) (r : Rp) : Prop where
  blk : wx.heap[gA]? = some (.cells r.vals.toArray 38 (0, 0))
  ok : r.ok wx
  far : ∀ ad, r.A = some ad → wo.heap.size ≤ ad.block ∧ ad.block < wx.heap.size ∧ ad.block ≠ gA
  at_ : wo.heap.size ≤ gA
  ext : Ext wo wx
section
variable {w : World} {g : Nat} {s : QS} {rs : List Rp} {va : Tg → Value} {T : Nat → Option Tg}
theorem rput_no1 (list : Int) (A : Option Addr) (n c : Nat) (h : ¬ (0 ≤ list ∧ list < 4)) : Calls Try.prog 13 #[.pointer (some ⟨g, 0, none⟩), .int .i64 list, .slice A n c] w fun e w' => e = .returned (.bool false) ∧ w = w' := by
  by_cases h0 : list < 0
  · clear h
    go_enter Try.func13, Try.ntmps13
    go_wp2
    go_ret
    exact ⟨rfl, rfl⟩
  · have h4 : (4 : Int) ≤ list := by omega
    clear h
    go_enter Try.func13, Try.ntmps13
    go_wp2
    go_ret
    exact ⟨rfl, rfl⟩
set_option maxHeartbeats 1000000 in
theorem rput_no2 (list : Int) {A : Option Addr} {n : Nat} (c : Nat) {xs : List Rp} (hs : Shows w 3 A n (rps xs)) (hn : n = xs.length) (hm : n ≤ 100000) (h : 0 ≤ list ∧ list < 4) (hf : samp (xs.map Rp.pk) = false) : Calls Try.prog 13 #[.pointer (some ⟨g, 0, none⟩), .int .i64 list, .slice A n c] w fun e w' => e = .returned (.bool false) ∧ Ext w w' := by
  have h0 : ¬ list < 0 := by omega
  have h4 : ¬ (4 : Int) ≤ list := by omega
  by_cases hz : n = 0
  · subst hz
    clear h hf hs hn hm
    go_enter Try.func13, Try.ntmps13
    go_wp2
    go_ret
    exact ⟨rfl, Ext.refl _⟩
  · have hne : ((n : Int) == 0) = false := by simp; omega
    have hne2 : ¬ ((n : Int) = 0) := by omega
    have HS := Lib.hid (And.intro hs (And.intro hn (And.intro hf (show 0 < n by omega))))
    clear h hf hs hn
    go_enter Try.func13, Try.ntmps13
    go_upto_region 4 with (fail)
    clear h0 h4 hne hne2
    go_loopw [7] (fun v wr => ∃ k : Nat, v = .int .i64 k ∧ k ≤ n ∧ Ext w wr ∧ (xs.take k).all (fun r => decide (r.code < 64)) = true) (fun v _ => n - (intOf v).toNat)
    case atStart => exact ⟨0, rfl, Nat.zero_le _, Ext.refl _, rfl⟩
    case round =>
      obtain ⟨k, rfl, hk, xr, hall⟩ := hrel
      by_cases hlt : k < n
      · have hkn : (k : Int) < n := by omega
        obtain ⟨r, hr⟩ : ∃ r, xs[k]? = some r := ⟨_, List.getElem?_eq_getElem (by have := HS.out.2.1; omega)⟩
        obtain ⟨b, o, hA, hb, hrr⟩ := Shows.row rp_len (by omega) (HS.out.1.ext xr) HS.out.2.1 hr
        have m1 := hrr 1 _ rfl
        have HX := Lib.hid hr
        have HA := Lib.hid hall
        clear hr hall hrr
        subst hA
        by_cases d : r.code < 64
        · have d' : ¬ (64 : Int) ≤ r.code := by omega
          go_wp2
          go_roundw
          case rel => exact ⟨k + 1, by go_num, by omega, xr, all_take HA.out HX.out (by simpa using d)⟩
          case measure => simp [intOf]; omega
        · have d' : (64 : Int) ≤ r.code := by omega
          go_wp2
          go_ret
          exact ⟨rfl, xr⟩
      · obtain rfl : k = n := by omega
        exfalso
        rw [HS.out.2.1, List.take_length] at hall
        have h1 := HS.out.2.2.1
        have h2 : (xs.map Rp.pk).all (fun p => decide (p.code < 64)) = true := by rw [List.all_map]; exact hall
        have h3 := HS.out.2.2.2
        rw [HS.out.2.1] at h3
        simp only [samp, h2, Bool.true_and, List.length_map, decide_eq_false_iff_not] at h1
        exact h1 h3
set_option maxHeartbeats 2000000 in
theorem rput_full (h : QuC w 45 g s rs va T) {j : Nat} (hj : j < 4) {A : Option Addr} {n : Nat} (c : Nat) {xs : List Rp} (hs : Shows w 3 A n (rps xs)) (hn : n = xs.length) (hm : n ≤ 100000) (hx : ∀ x ∈ xs, x.ok w ∧ x.n ≤ 100000) (hA : ∀ ad, A = some ad → T ad.block = none) (hxA : ∀ x ∈ xs, ∀ ad, x.A = some ad → 0 < x.n → T ad.block = none)
    (hf : samp (xs.map Rp.pk) = true) (hfull : s.most < s.l.length + n) :
    Calls Try.prog 13 #[.pointer (some ⟨g, 0, none⟩), .int .i64 (j : Int), .slice A n c] w fun e w' => e = .returned (.bool false) ∧ QPost w w' 45 g { s with lost := s.lost.set j true } rs T := by
  have h0 : ¬ (j : Int) < 0 := by omega
  have h4 : (j : Int) < 4 := by omega
  have h4' : ¬ (4 : Int) ≤ j := by omega
  have HH := Lib.hid h
  have hl := h.ok.n
  have hm2 := h.ok.m2
  obtain ⟨z, hz⟩ : ∃ z, z = s.l.length + n := ⟨_, rfl⟩
  have hzI : (s.l.length : Int) + n = (z : Int) := by omega
  have hzm : (s.most : Int) < z := by omega
  have z63 : z < 9223372036854775808 := by omega
  obtain ⟨ln, hln⟩ : ∃ ln, ln = s.l.length := ⟨_, rfl⟩
  rw [← hln] at hzI
  have HLN := Lib.hid hln
  have hcode : ∀ x ∈ xs, x.code < 64 := fun x hx => by
    simp only [samp, Bool.and_eq_true, List.all_eq_true, decide_eq_true_eq] at hf
    exact hf.1 x.pk (List.mem_map_of_mem hx)
  have hn0 : 0 < n := by
    simp only [samp, Bool.and_eq_true, decide_eq_true_eq, List.length_map] at hf
    omega
  have hne : ((n : Int) == 0) = false := by simp; omega
  have hne2 : ¬ ((n : Int) = 0) := by omega
  have HP := Lib.hid (And.intro hs (And.intro hn (And.intro hx (And.intro hA (And.intro hxA hcode)))))
  clear h hf hs hl hm2 hz hln hn hfull hx hA hxA hcode hn0
  have uz := wri z z63
  clear z63
  go_enter Try.func13, Try.ntmps13
  go_upto_region 4 with (fail)
  clear h0 h4 h4' hne hne2
  go_loopw [7] (fun v wr => ∃ k : Nat, v = .int .i64 k ∧ k ≤ n ∧ Ext w wr) (fun v _ => n - (intOf v).toNat)
  case atStart => exact ⟨0, rfl, Nat.zero_le _, Ext.refl _⟩
  case round =>
    obtain ⟨k, rfl, hk, xr⟩ := hrel
    by_cases hlt : k < n
    · have hkn : (k : Int) < n := by omega
      obtain ⟨r, hr⟩ : ∃ r, xs[k]? = some r := ⟨_, List.getElem?_eq_getElem (by have := HP.out.2.1; omega)⟩
      obtain ⟨b, o, hA, hb, hrr⟩ := Shows.row rp_len (by omega) (HP.out.1.ext xr) HP.out.2.1 hr
      have m1 := hrr 1 _ rfl
      have d : r.code < 64 := HP.out.2.2.2.2.2 r (List.mem_of_getElem? hr)
      have d' : ¬ (64 : Int) ≤ r.code := by omega
      clear hr hrr
      subst hA
      go_wp2
      go_roundw
      case rel => exact ⟨k + 1, by go_num, by omega, xr⟩
      case measure => simp [intOf]; omega
    · obtain rfl : k = n := by omega
      obtain ⟨wo, rfl⟩ : ∃ z : World, z = wr := ⟨_, rfl⟩
      have h0 : ¬ (j : Int) < 0 := by omega
      have h4 : (j : Int) < 4 := by omega
      have h4' : ¬ (4 : Int) ≤ j := by omega
      obtain ⟨A1, c1, e, h1, h2, k0, k1, kl, kf⟩ := (HH.out.ext xr).cells
      rw [HH.out.len, ← HLN.out] at k1
      clear e h1 kl kf
      go_upto_region 8 with (fail)
      go_quiet (fail)
      obtain ⟨w2, hWq⟩ : ∃ z : World, z = World.drewN wo nq := ⟨_, rfl⟩
      rw [← hWq]
      have xw2 : Ext wo w2 := by rw [hWq]; exact (Ext.refl _).drewN _
      clear hWq
      go_upto_region 9 with (fail)
      clear hzI hzm uz k0 k1
      have H2 := HH.out.ext (xr.trans xw2)
      obtain ⟨A2, c2, e, h3, h4a, k0, k1, kl, kf⟩ := H2.cells
      have kj := kl j hj
      have fj := kf (2 + j) (by omega)
      have HR := Lib.hid (qu_lost H2 hj true)
      clear H2 e h3 h4a k0 k1 kl kf h2
      go_wp2
      go_ret
      exact ⟨rfl, _, _, _, HR.out.1, (Kept.of_ext (xr.trans xw2)).trans' HR.out.2, fun b t hb => .inl (by rw [hb]; simp), FromR.same _ _⟩
end
end Go.Proofs.Ytdhdkjiphapliaa
