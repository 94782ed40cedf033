import Derived.Test.YtjdabmadpclbaaaBE
set_option linter.unusedVariables false
set_option linter.unusedSimpArgs false
namespace Go.Proofs.Ytjdabmadpclbaaa
open Go.RowKit
def skL (lost : Bool) (f : Fr) (i k : Nat) (S : List BSt) : List BSt := if lost then S else skN f i k S
theorem skL_len (lost : Bool) (f : Fr) (i k : Nat) (S : List BSt) : (skL lost f i k S).length = S.length := by unfold skL; split; rfl; exact skN_len ..
theorem skL_no {lost : Bool} {f : Fr} {i k : Nat} {S : List BSt} (h : k = i ∨ lost = true) : skL lost f i (k + 1) S = skL lost f i k S := by
  unfold skL
  cases lost
  · simp at h; simp [skN, h]
  · rfl
theorem skL_yes {f : Fr} {i k : Nat} {S : List BSt} {s s' : BSt} {b : Bool} (h : k ≠ i) (h1 : (skL false f i k S).getD k d0 = s) (h2 : s.take f = (s', b)) : skL false f i (k + 1) S = (skL false f i k S).set k s' := by
  unfold skL at h1 ⊢
  simp only [Bool.false_eq_true, if_false] at h1 ⊢
  rw [skN, if_neg h, h1, h2]
set_option maxRecDepth 100000 in
set_option maxHeartbeats 4000000 in
theorem rturn_any {w : World} {A : Option Addr} {n c : Nat} {gs : List Nat} {ss : List BSt} {F : Nat → Prop} (lost : Bool) (h : Bxs w 53 gs ss F) (sh : Shows w 1 A n (ptrs gs)) (hn : n = gs.length) (hA : ∀ ad, A = some ad → ¬ F ad.block) (hn9 : n ≤ 100) :
    Calls Try.prog 16 #[.bool lost, .slice A n c] w fun e w' => e = .returned (.tuple #[.int .i64 (pick ss).1, .agg (pick ss).2.1.vals.toArray, .bool (pick ss).2.2]) ∧ BxsPost w 53 gs (turnL lost ss) F w' := by
  have hlen : n = ss.length := by rw [hn, h.len]
  have hFlt := h.lt
  have hpo : (pick ss).2.1.ok := pickTo_ok h.ok _ (Nat.le_refl _)
  have hpn := pick_none (ss := ss)
  have hpl := pick_lt (ss := ss)
  have hturn : ∀ pl f fd, pick ss = (pl, f, fd) → turnL lost ss = if fd = false then ss else if lost then ss.set pl (ss.getD pl d0).done else skN f pl ss.length (ss.set pl (ss.getD pl d0).done) := fun pl f fd e => by unfold turnL; rw [e]
  have HH := Lib.hid h
  have HL := Lib.hid hlen
  have HN := Lib.hid hn
  have HA := Lib.hid hA
  have HFL := Lib.hid hFlt
  have HTU := Lib.hid hturn
  clear h hn hlen hA hFlt hturn
  have hfirst := fun W (x : Ext w W) => brfirst_any (c := c) (HH.out.ext x) (sh.ext x) HN.out hn9
  obtain ⟨pl, f, fd, hp⟩ : ∃ pl f fd, pick ss = (pl, f, fd) := ⟨_, _, _, rfl⟩
  rw [hp] at hpn hpl hpo hfirst ⊢
  simp only at hpn hpl hpo hfirst ⊢
  have HFI := Lib.hid hfirst
  have HTU2 := Lib.hid (HTU.out _ _ _ hp)
  clear hp hfirst HTU
  obtain ⟨w1, hw1⟩ : ∃ V, V = w.alloc (.cells Fr.zero.vals.toArray 34) := ⟨_, rfl⟩
  have k5 : w1.heap[w.heap.size]? = some (.cells Fr.zero.vals.toArray 34 (0, 0)) := by rw [hw1]; exact heap_alloc_new _ _
  have x1 : Ext w w1 := by rw [hw1]; exact (Ext.refl _).alloc _
  have hs1 := blk_lt k5
  go_enter Try.func16, Try.ntmps16
  go_upto_region 1 with (fail)
  change Code.wp _ _ _ _ (w.alloc (.cells Fr.zero.vals.toArray 34))
  rw [← hw1]
  clear hw1
  go_upto_region 2 with (first
    | (go_at_call 12; (refine (HFI.out _ x1).mono ?_); rintro e w2 ⟨rfl, x2⟩)
    | refine wpList_stnew rfl 34 _ _ rfl rfl f.vals rfl rfl size37 rfl (fr_one f) ?_)
  obtain ⟨w3, hw3⟩ : ∃ V, V = w2.alloc (.cells f.vals.toArray 34) := ⟨_, rfl⟩
  have k8 : w3.heap[w2.heap.size]? = some (.cells f.vals.toArray 34 (0, 0)) := by rw [hw3]; exact heap_alloc_new _ _
  have x3 : Ext w2 w3 := by rw [hw3]; exact (Ext.refl _).alloc _
  rw [← hw3]
  clear hw3
  have x03 := x1.trans (x2.trans x3)
  have k53 := ((x2.trans x3).block _ (blk_lt k5)).trans k5
  have hr3 : w.heap.size < w3.heap.size := blk_lt k53
  have hs8 : w.heap.size < w2.heap.size := by have := x2.size; omega
  have nF5 : ¬ F w.heap.size := fun e => by have := HFL.out _ e; omega
  have nF8 : ¬ F w2.heap.size := fun e => by have := HFL.out _ e; omega
  cases fd
  · have hp0 := hpn rfl
    injection hp0 with hp1 hp2
    injection hp2 with hp2 _
    subst hp1 hp2
    clear hpn hpl
    go_wp2_with (refine wpList_strow rfl 34 _ _ rfl k53 (cells := Fr.zero.vals.toArray) rfl rfl size37 rfl (all_oneCell_toArray (fr_one Fr.zero)) ?_; intro w8 k9 x8)
    try simp only [Exit.inBlock, Exit.then]
    refine bodyPost_ret (results_srs rfl rfl k9.out) rfl ?_
    have e9 : turnL lost ss = ss := by rw [HTU2.out]; simp
    exact ⟨rfl, by rw [e9]; exact ((HH.out.ext x03).same (Ext.refl _)).poke x03 HFL.out (Nat.le_refl _) hr3 x8⟩
  · have hplt := hpl rfl
    clear hpn hpl
    have hpn' : pl < n := by have := HL.out; omega
    have hkn : (pl : Int) < n := by omega
    have hk0 : (0 : Int) ≤ pl := by omega
    obtain ⟨g, s, hg, hs, hgd⟩ := (HH.out.ext x03).at_ hplt
    obtain ⟨Fi, hB, hstep⟩ := (HH.out.ext x03).step hg hs
    have sh3 := sh.ext x03
    obtain ⟨b, off, rfl, hb, hc⟩ := ptr_cell sh3 HN.out hg
    have hbF := HA.out _ rfl
    have HB := Lib.hid hB
    have HST := Lib.hid hstep
    have HGD := Lib.hid hgd
    clear hB hstep hg hs hgd
    go_upto_region 5 with (go_at_call 33; (refine (rdone_c HB.out).mono ?_); rintro e w4 ⟨rfl, q4⟩)
    have P4 := Lib.hid (HST.out _ _ q4)
    obtain ⟨S1, hS1⟩ : ∃ S1, S1 = ss.set pl s.done := ⟨_, rfl⟩
    have HSL : Hid (n = S1.length) := Lib.hid (by rw [hS1, List.length_set]; exact HL.out)
    rw [← hS1] at P4
    have HS1 := Lib.hid hS1
    clear q4 hS1 hc
    go_wp2
    go_loopg [10] n (fun gk i wr => ∃ k : Nat, i = .int .i64 k ∧ k ≤ n ∧ gk = n - k ∧ BxsPost w3 53 gs (skL lost f pl k S1) F wr)
    case atStart => exact ⟨0, rfl, by omega, by omega, by have := P4.out; unfold skL; split <;> exact this⟩
    case round =>
      obtain ⟨k, rfl, hk, rfl, hP⟩ := hrel
      by_cases hlt : k < n
      · have hkk : (k : Int) < n := by omega
        by_cases hkl : k = pl
        · have HNO := Lib.hid (skL_no (lost := lost) (f := f) (S := S1) (.inl hkl))
          have HPP := Lib.hid hP
          subst hkl
          clear hP
          go_wp2
          go_roundg (n - (k + 1))
          case measure => omega
          case rel => exact ⟨k + 1, by go_num, by omega, rfl, by rw [HNO.out]; exact HPP.out⟩
        · have hnb : ((k : Int) != pl) = true := by simp; omega
          have hnb2 : ¬ ((k : Int) = pl) := by omega
          cases lost
          · obtain ⟨F', hb1, hkp, hcc⟩ := hP
            obtain ⟨g2, s2, hg2, hs2, hgd2⟩ := hb1.at_ (i := k) (by rw [skL_len]; have := HSL.out; omega)
            obtain ⟨Fi2, hB2, hstep2⟩ := hb1.step hg2 hs2
            have hcell := ptr_cell' (sh3.kept hkp (fun ad e => by injection e with e; subst e; exact hbF)) HN.out hg2
            have hbw : b < wr.heap.size := Nat.lt_of_lt_of_le hb hkp.size
            obtain ⟨s', tb, hst⟩ : ∃ s' tb, s2.take f = (s', tb) := ⟨_, _, rfl⟩
            have HPN := Lib.hid (skL_yes hkl hgd2 hst)
            have HT := Lib.hid hst
            have HB2 := Lib.hid hB2
            have HG2 := Lib.hid hg2
            have HSP := Lib.hid (fun s' w' q => BxsPost.next hkp hcc (hstep2 s' w' q))
            have k22 := hkp.blk k8 nF8
            have hk9 : ∀ W X, BxsPost w3 53 gs X F W → W.cell? ⟨b, off + k, none⟩ = some (ptr g2) ∧ W.heap[w2.heap.size]? = some (.cells f.vals.toArray 34 (0, 0)) := fun W X q => by
              obtain ⟨F2, b2, kp2, c2⟩ := q
              exact ⟨ptr_cell' (sh3.kept kp2 (fun ad e => by injection e with e; subst e; exact hbF)) HN.out HG2.out, kp2.blk k8 nF8⟩
            have HK := Lib.hid hk9
            clear hst hB2 hstep2 hb1 hcc hkp hg2 hs2 hgd2 hk9
            go_upto_region 9 with (fail)
            refine wp_region_held_drew (S := fun W => W.cell? ⟨b, off + k, none⟩ = some (ptr g2) ∧ W.heap[w2.heap.size]? = some (.cells f.vals.toArray 34 (0, 0))) (by kernel_rfl) (⟨(Below.cell ((Ext.refl wr).drew) (p := ⟨b, off + k, none⟩) hbw).trans hcell, (((Ext.refl wr).drew).block _ (blk_lt k22)).trans k22⟩) (fun hHeld => ?_)
            obtain ⟨wD1, hwD⟩ : ∃ V, V = World.drew wr := ⟨_, rfl⟩
            rw [← hwD] at hHeld ⊢
            have zz0 : Ext wr wD1 := by rw [hwD]; exact (Ext.refl _).drew
            clear hwD
            refine wpAnyH_take (i := 0) (oi := { dst := some 38, op := Op.move (Operand.tmp 1), type := 27, pos := "ref.go:36", after := #[], guard := none }) (v := ?vv2_9_0) rfl (by kernel_rfl) (by kernel_rfl) (by kernel_rfl) (fun _ _ _ h => h) (Or.inl ⟨by rfl, ?yy2_9_0⟩) hHeld ?_
            case yy2_9_0 => (intro W hx; go_simp; try with_reducible rfl)
            simp only [Act.put, List.setIfInBounds_toArray, List.set_cons_zero, List.set_cons_succ]
            refine wpAnyH_take (i := 1) (oi := { dst := some 39, op := Op.move (Operand.tmp 10), type := 3, pos := "ref.go:36", after := #[], guard := none }) (v := ?vv3_9_1) rfl (by kernel_rfl) (by kernel_rfl) (by kernel_rfl) (fun _ _ _ h => h) (Or.inl ⟨by rfl, ?yy3_9_1⟩) hHeld ?_
            case yy3_9_1 => (intro W hx; go_simp; try with_reducible rfl)
            simp only [Act.put, List.setIfInBounds_toArray, List.set_cons_zero, List.set_cons_succ]
            refine wpAnyH_take (i := 2) (oi := { dst := some 40, op := Op.indexAddr 27 (Operand.tmp 38) (Operand.tmp 39), type := 0, pos := "ref.go:36", after := #[{ on := 0, ground := Ground.data }, { on := 1, ground := Ground.data }], guard := none }) (v := ?vv4_9_2) rfl (by kernel_rfl) (by kernel_rfl) (by kernel_rfl) (fun _ _ _ h => h) (Or.inl ⟨by rfl, ?yy4_9_2⟩) hHeld ?_
            case yy4_9_2 => (intro W hx; go_simp; try with_reducible rfl)
            simp only [Act.put, List.setIfInBounds_toArray, List.set_cons_zero, List.set_cons_succ]
            refine wpAnyH_take (i := 3) (oi := { dst := some 41, op := Op.load 43 (Operand.tmp 40), type := 43, pos := "ref.go:36", after := #[{ on := 2, ground := Ground.data }], guard := none }) (v := ?vv5_9_3) rfl (by kernel_rfl) (by kernel_rfl) (by kernel_rfl) (fun _ _ _ h => h) (Or.inl ⟨by rfl, ?yy5_9_3⟩) hHeld ?_
            case yy5_9_3 => (intro W hx; have q9 := hx.1; go_simp; try with_reducible rfl)
            simp only [Act.put, List.setIfInBounds_toArray, List.set_cons_zero, List.set_cons_succ]
            refine wpAnyH_take (i := 4) (oi := { dst := some 42, op := Op.load 34 (Operand.tmp 8), type := 34, pos := "ref.go:36", after := #[], guard := none }) (v := ?vv6_9_4) rfl (by kernel_rfl) (by kernel_rfl) (by kernel_rfl) (fun _ _ _ h => h) (Or.inl ⟨by rfl, ?yy6_9_4⟩) hHeld ?_
            case yy6_9_4 => (intro W hx; refine ld_op (frAt hx.2) ?_; rfl)
            simp only [Act.put, List.setIfInBounds_toArray, List.set_cons_zero, List.set_cons_succ]
            refine wpAnyH_ready (rs := [5]) (by kernel_rfl) (by simp) (AllReadyH.cons rfl (fun K hK => ?_) AllReadyH.nil)
            go_simp
            go_wp2_with (go_at_call 34; (refine (rtake_c (HB2.out.ext zz0) hpo HT.out).mono ?_); rintro e w5 ⟨rfl, q5⟩; have P5 := HSP.out _ _ (BxPost.of zz0 q5))
            refine hK.out _ _ (HK.out w5 _ P5) (fun hHeld => ?_)
            clear hK K
            refine wpAnyH_done (by kernel_rfl) ?_ _
            have P5 := Lib.hid P5
            go_wp2
            go_roundg (n - (k + 1))
            case measure => omega
            case rel => exact ⟨k + 1, by go_num, by omega, rfl, by rw [HPN.out]; exact P5.out⟩
          · have HNO := Lib.hid (skL_no (lost := true) (f := f) (i := pl) (k := k) (S := S1) (.inr rfl))
            have HPP := Lib.hid hP
            clear hP
            go_wp2
            go_roundg (n - (k + 1))
            case measure => omega
            case rel => exact ⟨k + 1, by go_num, by omega, rfl, by rw [HNO.out]; exact HPP.out⟩
      · obtain rfl : k = n := by omega
        have HPP := Lib.hid hP
        have k84 := hP.blk k8 nF8
        have k54 := hP.blk k53 nF5
        clear hP
        go_upto_region 10 with (fail)
        refine wp_region_held_drew (S := fun W => W.heap[w2.heap.size]? = some (.cells f.vals.toArray 34 (0, 0))) (by kernel_rfl) ((((Ext.refl _).drew).block _ (blk_lt k84)).trans k84) (fun hHeld => ?_)
        obtain ⟨wD7, hwD⟩ : ∃ V, V = World.drew wr := ⟨_, rfl⟩
        rw [← hwD] at hHeld ⊢
        have zz0 : Ext wr wD7 := by rw [hwD]; exact (Ext.refl _).drew
        clear hwD
        have k55 := (zz0.block _ (blk_lt k54)).trans k54
        refine wpAnyH_take (i := 0) (oi := { dst := some 44, op := Op.move (Operand.tmp 7), type := 3, pos := "ref.go:39", after := #[], guard := none }) (v := ?vv8_10_0) rfl (by kernel_rfl) (by kernel_rfl) (by kernel_rfl) (fun _ _ _ h => h) (Or.inl ⟨by rfl, ?yy8_10_0⟩) hHeld ?_
        case yy8_10_0 => (intro W hx; go_simp; try with_reducible rfl)
        simp only [Act.put, List.setIfInBounds_toArray, List.set_cons_zero, List.set_cons_succ]
        refine wpAnyH_take (i := 1) (oi := { dst := some 45, op := Op.load 34 (Operand.tmp 8), type := 34, pos := "ref.go:39", after := #[{ on := 2, ground := Ground.gcOnly Departure.lateStores }], guard := none }) (v := ?vv9_10_1) rfl (by kernel_rfl) (by kernel_rfl) (by kernel_rfl) (fun _ _ _ h => h) (Or.inl ⟨by rfl, ?yy9_10_1⟩) hHeld ?_
        case yy9_10_1 => (intro W hx; refine ld_op (frAt hx) ?_; rfl)
        simp only [Act.put, List.setIfInBounds_toArray, List.set_cons_zero, List.set_cons_succ]
        refine wpAnyH_take (i := 2) (oi := { dst := some 4, op := Op.assign (Operand.tmp 44), type := 3, pos := "ref.go:39", after := #[{ on := 0, ground := Ground.data }, { on := 0, ground := Ground.phase }, { on := 1, ground := Ground.textOnly Departure.lateStores }], guard := none }) (v := ?vv10_10_2) rfl (by kernel_rfl) (by kernel_rfl) (by kernel_rfl) (fun _ _ _ h => h) (Or.inl ⟨by rfl, ?yy10_10_2⟩) hHeld ?_
        case yy10_10_2 => (intro W hx; go_simp; try with_reducible rfl)
        simp only [Act.put, List.setIfInBounds_toArray, List.set_cons_zero, List.set_cons_succ]
        refine wpAnyH_ready (rs := [3]) (by kernel_rfl) (by simp) (AllReadyH.cons rfl (fun K hK => ?_) AllReadyH.nil)
        rw [if_pos (by rfl)]
        refine wp_strow (o := { dst := none, op := Op.store 34 (Operand.tmp 5) (Operand.tmp 45), type := 0, pos := "ref.go:39", after := #[{ on := 1, ground := Ground.data }, { on := 2, ground := Ground.chain }, { on := 0, ground := Ground.phase }, { on := 1, ground := Ground.phase }, { on := 2, ground := Ground.phase }], guard := none }) _ _ _ rfl k55 rfl rfl size37 rfl (all_oneCell_toArray (fr_one f)) ?_; intro w8 k9 x8
        simp only [Act.put]
        refine hK.out _ _ ((x8.block _ (blk_lt hHeld) (fun e => by injection e with e; omega)).trans hHeld) (fun hHeld => ?_)
        clear hK K
        refine wpAnyH_take (i := 4) (oi := { dst := some 6, op := Op.assign (Operand.const (Value.bool true)), type := 4, pos := "ref.go:39", after := #[{ on := 3, ground := Ground.chain }, { on := 0, ground := Ground.phase }, { on := 1, ground := Ground.phase }, { on := 2, ground := Ground.phase }, { on := 3, ground := Ground.phase }], guard := none }) (v := ?vv11_10_4) rfl (by kernel_rfl) (by kernel_rfl) (by kernel_rfl) (fun _ _ _ h => h) (Or.inl ⟨by rfl, ?yy11_10_4⟩) hHeld ?_
        case yy11_10_4 => (intro W hx; go_simp; try with_reducible rfl)
        simp only [Act.put, List.setIfInBounds_toArray, List.set_cons_zero, List.set_cons_succ]
        refine wpAnyH_done (by kernel_rfl) ?_ _
        go_wp2
        try simp only [Exit.inBlock, Exit.then]
        refine bodyPost_ret (results_srs rfl rfl k9) rfl ?_
        refine ⟨rfl, ?_⟩
        have e9 : turnL lost ss = skL lost f pl k S1 := by
          rw [HTU2.out, HGD.out, ← HS1.out]
          have e8 := HL.out
          unfold skL
          rw [if_neg (by simp), e8]
        rw [e9]
        exact (HPP.out.ext zz0).poke x03 HFL.out (Nat.le_refl _) hr3 x8
end Go.Proofs.Ytjdabmadpclbaaa
