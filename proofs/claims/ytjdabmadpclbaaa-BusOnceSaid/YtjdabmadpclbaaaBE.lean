import Derived.Test.YtjdabmadpclbaaaBC
import Derived.Test.YtjdabmadpclbaaaBD
set_option linter.unusedVariables false
set_option linter.unusedSimpArgs false
namespace Go.Proofs.Ytjdabmadpclbaaa
open Go.RowKit
/-- all of the first k but the one at i take a frame. -/
def skN (f : Fr) (i : Nat) : Nat → List BSt → List BSt
  | 0, ss => ss
  | k + 1, ss => if k = i then skN f i k ss else (skN f i k ss).set k (((skN f i k ss).getD k d0).take f).1
theorem skN_len (f : Fr) (i : Nat) (ss : List BSt) : ∀ k, (skN f i k ss).length = ss.length
  | 0 => rfl
  | k + 1 => by rw [skN]; split <;> simp [skN_len f i ss k]
theorem putN_get (f : Fr) (lo : Nat) (ss : List BSt) : ∀ (k j : Nat), lo + k ≤ ss.length → (putN f lo k ss).1[j]? = if lo ≤ j ∧ j < lo + k then (ss[j]?).map (fun s => (s.take f).1) else ss[j]?
  | 0, j, _ => by rw [if_neg (by omega)]; rfl
  | k + 1, j, h => by
    have ih := putN_get f lo ss k j (by omega)
    have ih2 := putN_get f lo ss k (lo + k) (by omega)
    rw [if_neg (by omega)] at ih2
    rw [putN]
    dsimp only
    by_cases hj : lo + k = j
    · subst hj
      rw [List.getElem?_set_self (by rw [putN_len]; omega), if_pos (by omega)]
      have : ss[lo + k]? = some ss[lo + k] := List.getElem?_eq_getElem (by omega)
      rw [this] at ih2 ⊢
      simp [List.getD, ih2]
    · rw [List.getElem?_set_ne hj, ih]
      by_cases h1 : lo ≤ j ∧ j < lo + k
      · rw [if_pos h1, if_pos (by omega)]
      · rw [if_neg h1, if_neg (by omega)]
theorem skN_get (f : Fr) (i : Nat) (ss : List BSt) : ∀ (k j : Nat), k ≤ ss.length → (skN f i k ss)[j]? = if j < k ∧ j ≠ i then (ss[j]?).map (fun s => (s.take f).1) else ss[j]?
  | 0, j, _ => by rw [if_neg (by omega)]; rfl
  | k + 1, j, h => by
    have ih := skN_get f i ss k j (by omega)
    have ih2 := skN_get f i ss k k (by omega)
    rw [if_neg (by omega)] at ih2
    rw [skN]
    by_cases hk : k = i
    · rw [if_pos hk, ih]
      by_cases h1 : j < k ∧ j ≠ i
      · rw [if_pos h1, if_pos (by omega)]
      · rw [if_neg h1, if_neg (by omega)]
    · rw [if_neg hk]
      by_cases hj : k = j
      · subst hj
        rw [List.getElem?_set_self (by rw [skN_len]; omega), if_pos (by omega)]
        have : ss[k]? = some ss[k] := List.getElem?_eq_getElem (by omega)
        rw [this] at ih2 ⊢
        simp [List.getD, ih2]
      · rw [List.getElem?_set_ne hj, ih]
        by_cases h1 : j < k ∧ j ≠ i
        · rw [if_pos h1, if_pos (by omega)]
        · rw [if_neg h1, if_neg (by omega)]
theorem skN_eq (f : Fr) (i : Nat) (ss : List BSt) (hi : i < ss.length) : (putN f (i + 1) (ss.length - (i + 1)) (putN f 0 i ss).1).1 = skN f i ss.length ss := by
  apply List.ext_getElem?
  intro j
  rw [putN_get _ _ _ _ _ (by rw [putN_len]; omega), putN_get _ _ _ _ _ (by omega), skN_get _ _ _ _ _ (Nat.le_refl _)]
  by_cases hj : j < ss.length
  · by_cases h1 : j < i
    · rw [if_neg (by omega), if_pos (by omega), if_pos (by omega)]
    · by_cases h2 : j = i
      · rw [if_neg (by omega), if_neg (by omega), if_neg (by omega)]
      · rw [if_pos (by omega), if_neg (by omega), if_pos (by omega)]
  · have e : ss[j]? = none := List.getElem?_eq_none (by omega)
    simp [e]
/-- what a Turn does. -/
def turnL (lost : Bool) (ss : List BSt) : List BSt :=
  if (pick ss).2.2 = false then ss else
  if lost then ss.set (pick ss).1 (ss.getD (pick ss).1 d0).done else skN (pick ss).2.1 (pick ss).1 ss.length (ss.set (pick ss).1 (ss.getD (pick ss).1 d0).done)
theorem pick_none {ss : List BSt} (h : (pick ss).2.2 = false) : pick ss = (0, Fr.zero, false) := pickTo_none _ h
theorem pick_lt {ss : List BSt} (h : (pick ss).2.2 = true) : (pick ss).1 < ss.length := pickTo_lt _ h
theorem put_post {w0 w : World} {A : Option Addr} {n c lo : Nat} {gs sub : List Nat} {ss : List BSt} {F : Nat → Prop} {f : Fr} (hf : f.ok) (p : BxsPost w0 71 gs ss F w) (sh : Shows w0 1 A n (ptrs sub)) (hn : n = sub.length) (hsub : ∀ k, k < n → sub[k]? = gs[lo + k]?) (hlo : lo + n ≤ ss.length) (hA : ∀ ad, A = some ad → ¬ F ad.block ∧ ad.block < w0.heap.size) (hn9 : n ≤ 100) :
    Calls Try.prog 17 #[.agg f.vals.toArray, .slice A n c] w fun e w' => e = .returned (.int .i64 (putN f lo n ss).2) ∧ BxsPost w0 71 gs (putN f lo n ss).1 F w' := by
  obtain ⟨F', b, kp, cc⟩ := p
  exact (put_any hf b (sh.kept kp (fun ad e => (hA ad e).1)) hn hsub hlo (fun ad e hF => (cc _ hF).elim (hA ad e).1 (fun q => by have := (hA ad e).2; omega)) hn9).mono fun e w' ⟨r, q⟩ => ⟨r, BxsPost.next kp cc q⟩
theorem BxsPost.poke {w w3 w4 w5 : World} {ty : TypeId} {gs : List Nat} {ss : List BSt} {F : Nat → Prop} {r : Nat} (p : BxsPost w3 ty gs ss F w4) (x : Ext w w3) (hF : ∀ k, F k → k < w.heap.size) (h1 : w.heap.size ≤ r) (h2 : r < w3.heap.size) (k : w4.grownBy w5 (some r)) : BxsPost w ty gs ss F w5 := by
  obtain ⟨F', b, kp, c⟩ := p
  have hr : ¬ F' r := fun e => (c r e).elim (fun q => by have := hF r q; omega) (fun q => by omega)
  have kr : Kept (· = r) w4 w5 := .of_grown k (fun b e => by injection e with e; exact e.symm)
  exact ⟨F', b.kept kr (fun i hi e => hr (e ▸ hi)), (Kept.trans' (.of_ext x) kp).trans kr (fun i hi e => by omega), fun i hi => (c i hi).imp id (fun q => Nat.le_trans x.size q)⟩
theorem BxsPost.blk {w w' : World} {ty : TypeId} {gs : List Nat} {ss : List BSt} {F : Nat → Prop} (p : BxsPost w ty gs ss F w') {r : Nat} {o : Obj} (h : w.heap[r]? = some o) (hF : ¬ F r) : w'.heap[r]? = some o := by
  obtain ⟨F', b, kp, c⟩ := p
  exact kp.blk h hF
theorem done_c {w : World} {g : Nat} {s : BSt} {F : Nat → Prop} (h : BxC w 71 g s F) : Calls Try.prog 32 #[.pointer (some ⟨g, 0, none⟩)] w fun e w' => e = .returned (.tuple #[]) ∧ BxPost w 71 g s.done F w' := done_any h
theorem rdone_c {w : World} {g : Nat} {s : BSt} {F : Nat → Prop} (h : BxC w 53 g s F) : Calls Try.prog 33 #[.pointer (some ⟨g, 0, none⟩)] w fun e w' => e = .returned (.tuple #[]) ∧ BxPost w 53 g s.done F w' := rdone_any h
set_option maxRecDepth 100000 in
set_option maxHeartbeats 4000000 in
theorem turn_any {w : World} {A : Option Addr} {n c : Nat} {gs : List Nat} {ss : List BSt} {F : Nat → Prop} (lost : Bool) (h : Bxs w 71 gs ss F) (sh : Shows w 1 A n (ptrs gs)) (hn : n = gs.length) (hnc : n ≤ c) (hA : ∀ ad, A = some ad → ¬ F ad.block) (hn9 : n ≤ 100) (hcm : c ≤ maxLen) :
    Calls Try.prog 15 #[.bool lost, .slice A n c] w fun e w' => e = .returned (.tuple #[.int .i64 (pick ss).1, .agg (pick ss).2.1.vals.toArray, .bool (pick ss).2.2]) ∧ BxsPost w 71 gs (turnL lost ss) F w' := by
  unfold maxLen at hcm
  have hlen : n = ss.length := by rw [hn, h.len]
  have hbok := h.ok
  have hFlt := h.lt
  have hpo : (pick ss).2.1.ok := pickTo_ok h.ok _ (Nat.le_refl _)
  have hpn := pick_none (ss := ss)
  have hpl := pick_lt (ss := ss)
  have hturn : ∀ pl f fd, pick ss = (pl, f, fd) → turnL lost ss = if fd = false then ss else if lost then ss.set pl (ss.getD pl d0).done else skN f pl ss.length (ss.set pl (ss.getD pl d0).done) := fun pl f fd e => by unfold turnL; rw [e]
  have HH := Lib.hid h
  have HL := Lib.hid hlen
  have HN := Lib.hid hn
  have HA := Lib.hid hA
  have HFL := Lib.hid hFlt
  have HTU := Lib.hid hturn
  clear h hn hlen hA hFlt hturn hbok
  have hfirst := fun W (x : Ext w W) => bfirst_any (c := c) (HH.out.ext x) (sh.ext x) HN.out hn9
  obtain ⟨pl, f, fd, hp⟩ : ∃ pl f fd, pick ss = (pl, f, fd) := ⟨_, _, _, rfl⟩
  rw [hp] at hpn hpl hpo hfirst ⊢
  simp only at hpn hpl hpo hfirst ⊢
  have HFI := Lib.hid hfirst
  have HTU2 := Lib.hid (HTU.out _ _ _ hp)
  clear hp hfirst HTU
  obtain ⟨w1, hw1⟩ : ∃ V, V = w.alloc (.cells Fr.zero.vals.toArray 34) := ⟨_, rfl⟩
  have k5 : w1.heap[w.heap.size]? = some (.cells Fr.zero.vals.toArray 34 (0, 0)) := by rw [hw1]; exact heap_alloc_new _ _
  have x1 : Ext w w1 := by rw [hw1]; exact (Ext.refl _).alloc _
  have hs1 := blk_lt k5
  go_enter Try.func15, Try.ntmps15
  go_upto_region 1 with (fail)
  change Code.wp _ _ _ _ (w.alloc (.cells Fr.zero.vals.toArray 34))
  rw [← hw1]
  clear hw1
  go_upto_region 2 with (first
    | (go_at_call 11; (refine (HFI.out _ x1).mono ?_); rintro e w2 ⟨rfl, x2⟩)
    | refine wpList_stnew rfl 34 _ _ rfl rfl f.vals rfl rfl size37 rfl (fr_one f) ?_)
  obtain ⟨w3, hw3⟩ : ∃ V, V = w2.alloc (.cells f.vals.toArray 34) := ⟨_, rfl⟩
  have k8 : w3.heap[w2.heap.size]? = some (.cells f.vals.toArray 34 (0, 0)) := by rw [hw3]; exact heap_alloc_new _ _
  have x3 : Ext w2 w3 := by rw [hw3]; exact (Ext.refl _).alloc _
  rw [← hw3]
  clear hw3
  have x03 := x1.trans (x2.trans x3)
  have k53 := ((x2.trans x3).block _ (blk_lt k5)).trans k5
  have hr3 : w.heap.size < w3.heap.size := blk_lt k53
  have hs8 : w.heap.size < w2.heap.size := by have := x2.size; omega
  have nF5 : ¬ F w.heap.size := fun e => by have := HFL.out _ e; omega
  have nF8 : ¬ F w2.heap.size := fun e => by have := HFL.out _ e; omega
  cases fd
  · have hp0 := hpn rfl
    injection hp0 with hp1 hp2
    injection hp2 with hp2 _
    subst hp1 hp2
    clear hpn hpl
    go_wp2_with (refine wpList_strow rfl 34 _ _ rfl k53 (cells := Fr.zero.vals.toArray) rfl rfl size37 rfl (all_oneCell_toArray (fr_one Fr.zero)) ?_; intro w8 k9 x8)
    try simp only [Exit.inBlock, Exit.then]
    refine bodyPost_ret (results_srs rfl rfl k9.out) rfl ?_
    have e9 : turnL lost ss = ss := by rw [HTU2.out]; simp
    exact ⟨rfl, by rw [e9]; exact ((HH.out.ext x03).same (Ext.refl _)).poke x03 HFL.out (Nat.le_refl _) hr3 x8⟩
  · have hplt := hpl rfl
    clear hpn hpl
    have hpn' : pl < n := by have := HL.out; omega
    have hkn : (pl : Int) < n := by omega
    have hk0 : (0 : Int) ≤ pl := by omega
    obtain ⟨g, s, hg, hs, hgd⟩ := (HH.out.ext x03).at_ hplt
    obtain ⟨Fi, hB, hstep⟩ := (HH.out.ext x03).step hg hs
    have sh3 := sh.ext x03
    obtain ⟨b, off, rfl, hb, hc⟩ := ptr_cell sh3 HN.out hg
    have hbF := HA.out _ rfl
    have HB := Lib.hid hB
    have HST := Lib.hid hstep
    have HGD := Lib.hid hgd
    clear hB hstep hg hs hgd
    go_upto_region 5 with (go_at_call 32; (refine (done_c HB.out).mono ?_); rintro e w4 ⟨rfl, q4⟩)
    have P4 := Lib.hid (HST.out _ _ q4)
    have k84 := P4.out.blk k8 nF8
    have k54 := P4.out.blk k53 nF5
    clear q4
    cases lost
    · have hpc : pl ≤ c := by omega
      have hpc1 : pl + 1 ≤ c := by omega
      have hi0 : (0 : Int) ≤ pl + 1 := by omega
      have hwr : IntKind.i64.wrap ((pl : Int) + 1) = pl + 1 := by rw [IntKind.wrap_i64]; omega
      have htn : ((pl : Int) + 1).toNat = pl + 1 := by omega
      have hi1 : (pl : Int) + 1 ≤ n := by omega
      have st := Lib.hid (show Shows w3 1 (some ⟨b, off, none⟩) pl (ptrs (gs.take pl)) by have := sh3.take (k := pl) (by omega); simpa [ptrs, List.map_take] using this)
      obtain ⟨pA, hpA⟩ : ∃ pA, (if c = pl + 1 then some (⟨b, off, none⟩ : Addr) else some ⟨b, off + (pl + 1), none⟩) = some pA := by split <;> exact ⟨_, rfl⟩
      have hpb : pA.block = b := by split at hpA <;> (injection hpA with hpA; rw [← hpA])
      have sd := Lib.hid (show Shows w3 1 (some pA) (n - (pl + 1)) (ptrs (gs.drop (pl + 1))) by
        have := sh3.drop (k := pl + 1) (by omega) hnc
        rw [← hpA]
        simpa [ptrs, List.map_drop, Addr.add_lit] using this)
      have hst : ∀ k, k < pl → (gs.take pl)[k]? = gs[0 + k]? := fun k hk => by rw [List.getElem?_take, if_pos hk, Nat.zero_add]
      have hsd : ∀ k, k < n - (pl + 1) → (gs.drop (pl + 1))[k]? = gs[pl + 1 + k]? := fun k hk => by rw [List.getElem?_drop]
      have HST2 := Lib.hid hst
      have HSD2 := Lib.hid hsd
      have HL1 : Hid (pl = (gs.take pl).length) := Lib.hid (by rw [List.length_take]; have := HN.out; omega)
      have HL2 : Hid (n - (pl + 1) = (gs.drop (pl + 1)).length) := Lib.hid (by rw [List.length_drop]; have := HN.out; omega)
      have HL3 : Hid (0 + pl ≤ (ss.set pl s.done).length) := Lib.hid (by rw [List.length_set]; omega)
      have HL4 : Hid (pl + 1 + (n - (pl + 1)) ≤ (putN f 0 pl (ss.set pl s.done)).1.length) := Lib.hid (by rw [putN_len, List.length_set]; have := HL.out; omega)
      have hA1 : ∀ ad, some (⟨b, off, none⟩ : Addr) = some ad → ¬ F ad.block ∧ ad.block < w3.heap.size := fun ad e => by injection e with e; subst e; exact ⟨hbF, hb⟩
      have hA2 : ∀ ad, some pA = some ad → ¬ F ad.block ∧ ad.block < w3.heap.size := fun ad e => by injection e with e; subst e; rw [hpb]; exact ⟨hbF, hb⟩
      have HA1 := Lib.hid hA1
      have HA2 := Lib.hid hA2
      clear hst hsd hA1 hA2 hpb
      go_upto_region 6 with (fail)
      refine wp_region_held_drew (S := fun W => W.heap[w2.heap.size]? = some (.cells f.vals.toArray 34 (0, 0))) (by kernel_rfl) ((((Ext.refl _).drew).block _ (blk_lt k84)).trans k84) (fun hHeld => ?_)
      obtain ⟨wD1, hwD⟩ : ∃ V, V = World.drew w4 := ⟨_, rfl⟩
      rw [← hwD] at hHeld ⊢
      have zz0 : Ext w4 wD1 := by rw [hwD]; exact (Ext.refl _).drew
      clear hwD
      have PD := P4.out.ext zz0
      refine wpAnyH_take (i := 0) (oi := { dst := some 26, op := Op.load 34 (Operand.tmp 8), type := 34, pos := "bus.go:30", after := #[], guard := none }) (v := ?vv2_6_0) rfl (by kernel_rfl) (by kernel_rfl) (by kernel_rfl) (fun _ _ _ h => h) (Or.inl ⟨by rfl, ?yy2_6_0⟩) hHeld ?_
      case yy2_6_0 => (intro W hx; refine ld_op (frAt hx) ?_; rfl)
      simp only [Act.put, List.setIfInBounds_toArray, List.set_cons_zero, List.set_cons_succ]
      refine wpAnyH_take (i := 1) (oi := { dst := some 27, op := Op.move (Operand.tmp 1), type := 26, pos := "bus.go:30", after := #[], guard := none }) (v := ?vv3_6_1) rfl (by kernel_rfl) (by kernel_rfl) (by kernel_rfl) (fun _ _ _ h => h) (Or.inl ⟨by rfl, ?yy3_6_1⟩) hHeld ?_
      case yy3_6_1 => (intro W hx; go_simp; try with_reducible rfl)
      simp only [Act.put, List.setIfInBounds_toArray, List.set_cons_zero, List.set_cons_succ]
      refine wpAnyH_take (i := 2) (oi := { dst := some 28, op := Op.move (Operand.tmp 7), type := 3, pos := "bus.go:30", after := #[], guard := none }) (v := ?vv4_6_2) rfl (by kernel_rfl) (by kernel_rfl) (by kernel_rfl) (fun _ _ _ h => h) (Or.inl ⟨by rfl, ?yy4_6_2⟩) hHeld ?_
      case yy4_6_2 => (intro W hx; go_simp; try with_reducible rfl)
      simp only [Act.put, List.setIfInBounds_toArray, List.set_cons_zero, List.set_cons_succ]
      refine wpAnyH_take (i := 3) (oi := { dst := some 29, op := Op.slice 26 (Operand.tmp 27) none (some (Operand.tmp 28)) none, type := 26, pos := "bus.go:30", after := #[{ on := 1, ground := Ground.data }, { on := 2, ground := Ground.data }], guard := none }) (v := ?vv5_6_3) rfl (by kernel_rfl) (by kernel_rfl) (by kernel_rfl) (fun _ _ _ h => h) (Or.inl ⟨by rfl, ?yy5_6_3⟩) hHeld ?_
      case yy5_6_3 => (intro W hx; go_simp; try with_reducible rfl)
      simp only [Act.put, List.setIfInBounds_toArray, List.set_cons_zero, List.set_cons_succ]
      refine wpAnyH_ready (rs := [4]) (by kernel_rfl) (by simp) (AllReadyH.cons rfl (fun K hK => ?_) AllReadyH.nil)
      go_simp
      go_wp2_with (go_at_call 17; (refine (put_post hpo PD st.out HL1.out HST2.out HL3.out HA1.out (by omega)).mono ?_); rintro e w5 ⟨rfl, P5⟩)
      refine hK.out _ _ (P5.blk k8 nF8) (fun hHeld => ?_)
      clear hK K
      refine wpAnyH_done (by kernel_rfl) ?_ _
      have k85 := hHeld
      have P5 := Lib.hid P5
      clear hHeld PD zz0
      go_upto_region 7 with (fail)
      refine wp_region_held_drew (S := fun W => W.heap[w2.heap.size]? = some (.cells f.vals.toArray 34 (0, 0))) (by kernel_rfl) ((((Ext.refl _).drew).block _ (blk_lt k85)).trans k85) (fun hHeld => ?_)
      obtain ⟨wD11, hwD⟩ : ∃ V, V = World.drew w5 := ⟨_, rfl⟩
      rw [← hwD] at hHeld ⊢
      have zz0 : Ext w5 wD11 := by rw [hwD]; exact (Ext.refl _).drew
      clear hwD
      have PD := P5.out.ext zz0
      refine wpAnyH_take (i := 0) (oi := { dst := some 31, op := Op.load 34 (Operand.tmp 8), type := 34, pos := "bus.go:31", after := #[], guard := none }) (v := ?vv12_7_0) rfl (by kernel_rfl) (by kernel_rfl) (by kernel_rfl) (fun _ _ _ h => h) (Or.inl ⟨by rfl, ?yy12_7_0⟩) hHeld ?_
      case yy12_7_0 => (intro W hx; refine ld_op (frAt hx) ?_; rfl)
      simp only [Act.put, List.setIfInBounds_toArray, List.set_cons_zero, List.set_cons_succ]
      refine wpAnyH_take (i := 1) (oi := { dst := some 32, op := Op.move (Operand.tmp 1), type := 26, pos := "bus.go:31", after := #[], guard := none }) (v := ?vv13_7_1) rfl (by kernel_rfl) (by kernel_rfl) (by kernel_rfl) (fun _ _ _ h => h) (Or.inl ⟨by rfl, ?yy13_7_1⟩) hHeld ?_
      case yy13_7_1 => (intro W hx; go_simp; try with_reducible rfl)
      simp only [Act.put, List.setIfInBounds_toArray, List.set_cons_zero, List.set_cons_succ]
      refine wpAnyH_take (i := 2) (oi := { dst := some 33, op := Op.move (Operand.tmp 7), type := 3, pos := "bus.go:31", after := #[], guard := none }) (v := ?vv14_7_2) rfl (by kernel_rfl) (by kernel_rfl) (by kernel_rfl) (fun _ _ _ h => h) (Or.inl ⟨by rfl, ?yy14_7_2⟩) hHeld ?_
      case yy14_7_2 => (intro W hx; go_simp; try with_reducible rfl)
      simp only [Act.put, List.setIfInBounds_toArray, List.set_cons_zero, List.set_cons_succ]
      refine wpAnyH_take (i := 3) (oi := { dst := some 34, op := Op.binOp BinOp.add 3 (Operand.tmp 33) (Operand.const (Value.int IntKind.i64 1)) 3, type := 3, pos := "bus.go:31", after := #[{ on := 2, ground := Ground.data }], guard := none }) (v := ?vv15_7_3) rfl (by kernel_rfl) (by kernel_rfl) (by kernel_rfl) (fun _ _ _ h => h) (Or.inl ⟨by rfl, ?yy15_7_3⟩) hHeld ?_
      case yy15_7_3 => (intro W hx; go_simp; try with_reducible rfl)
      simp only [Act.put, List.setIfInBounds_toArray, List.set_cons_zero, List.set_cons_succ]
      refine wpAnyH_take (i := 4) (oi := { dst := some 35, op := Op.slice 26 (Operand.tmp 32) (some (Operand.tmp 34)) none none, type := 26, pos := "bus.go:31", after := #[{ on := 1, ground := Ground.data }, { on := 3, ground := Ground.data }], guard := none }) (v := ?vv16_7_4) rfl (by kernel_rfl) (by kernel_rfl) (by kernel_rfl) (fun _ _ _ h => h) (Or.inl ⟨by rfl, ?yy16_7_4⟩) hHeld ?_
      case yy16_7_4 => (intro W hx; go_simp; try with_reducible rfl)
      simp only [Act.put, List.setIfInBounds_toArray, List.set_cons_zero, List.set_cons_succ]
      refine wpAnyH_ready (rs := [5]) (by kernel_rfl) (by simp) (AllReadyH.cons rfl (fun K hK => ?_) AllReadyH.nil)
      go_simp
      go_wp2_with (go_at_call 17; (refine (put_post hpo PD sd.out HL2.out HSD2.out HL4.out HA2.out (by omega)).mono ?_); rintro e w6 ⟨rfl, P6⟩)
      refine hK.out _ _ (P6.blk k8 nF8) (fun hHeld => ?_)
      clear hK K
      refine wpAnyH_done (by kernel_rfl) ?_ _
      have k86 := hHeld
      have k56 := P6.blk k53 nF5
      have P6 := Lib.hid P6
      clear hHeld PD zz0
      go_upto_region 8 with (fail)
      refine wp_region_held_drew (S := fun W => W.heap[w2.heap.size]? = some (.cells f.vals.toArray 34 (0, 0))) (by kernel_rfl) ((((Ext.refl _).drew).block _ (blk_lt k86)).trans k86) (fun hHeld => ?_)
      obtain ⟨wD17, hwD⟩ : ∃ V, V = World.drew w6 := ⟨_, rfl⟩
      rw [← hwD] at hHeld ⊢
      have zz0 : Ext w6 wD17 := by rw [hwD]; exact (Ext.refl _).drew
      clear hwD
      have k55 := (zz0.block _ (blk_lt k56)).trans k56
      refine wpAnyH_take (i := 0) (oi := { dst := some 37, op := Op.move (Operand.tmp 7), type := 3, pos := "bus.go:33", after := #[], guard := none }) (v := ?vv18_8_0) rfl (by kernel_rfl) (by kernel_rfl) (by kernel_rfl) (fun _ _ _ h => h) (Or.inl ⟨by rfl, ?yy18_8_0⟩) hHeld ?_
      case yy18_8_0 => (intro W hx; go_simp; try with_reducible rfl)
      simp only [Act.put, List.setIfInBounds_toArray, List.set_cons_zero, List.set_cons_succ]
      refine wpAnyH_take (i := 1) (oi := { dst := some 38, op := Op.load 34 (Operand.tmp 8), type := 34, pos := "bus.go:33", after := #[{ on := 2, ground := Ground.gcOnly Departure.lateStores }], guard := none }) (v := ?vv19_8_1) rfl (by kernel_rfl) (by kernel_rfl) (by kernel_rfl) (fun _ _ _ h => h) (Or.inl ⟨by rfl, ?yy19_8_1⟩) hHeld ?_
      case yy19_8_1 => (intro W hx; refine ld_op (frAt hx) ?_; rfl)
      simp only [Act.put, List.setIfInBounds_toArray, List.set_cons_zero, List.set_cons_succ]
      refine wpAnyH_take (i := 2) (oi := { dst := some 4, op := Op.assign (Operand.tmp 37), type := 3, pos := "bus.go:33", after := #[{ on := 0, ground := Ground.data }, { on := 0, ground := Ground.phase }, { on := 1, ground := Ground.textOnly Departure.lateStores }], guard := none }) (v := ?vv20_8_2) rfl (by kernel_rfl) (by kernel_rfl) (by kernel_rfl) (fun _ _ _ h => h) (Or.inl ⟨by rfl, ?yy20_8_2⟩) hHeld ?_
      case yy20_8_2 => (intro W hx; go_simp; try with_reducible rfl)
      simp only [Act.put, List.setIfInBounds_toArray, List.set_cons_zero, List.set_cons_succ]
      refine wpAnyH_ready (rs := [3]) (by kernel_rfl) (by simp) (AllReadyH.cons rfl (fun K hK => ?_) AllReadyH.nil)
      rw [if_pos (by rfl)]
      refine wp_strow (o := { dst := none, op := Op.store 34 (Operand.tmp 5) (Operand.tmp 38), type := 0, pos := "bus.go:33", after := #[{ on := 1, ground := Ground.data }, { on := 2, ground := Ground.chain }, { on := 0, ground := Ground.phase }, { on := 1, ground := Ground.phase }, { on := 2, ground := Ground.phase }], guard := none }) _ _ _ rfl k55 rfl rfl size37 rfl (all_oneCell_toArray (fr_one f)) ?_; intro w8 k9 x8
      simp only [Act.put]
      refine hK.out _ _ ((x8.block _ (blk_lt hHeld) (fun e => by injection e with e; omega)).trans hHeld) (fun hHeld => ?_)
      clear hK K
      refine wpAnyH_take (i := 4) (oi := { dst := some 6, op := Op.assign (Operand.const (Value.bool true)), type := 4, pos := "bus.go:33", after := #[{ on := 3, ground := Ground.chain }, { on := 0, ground := Ground.phase }, { on := 1, ground := Ground.phase }, { on := 2, ground := Ground.phase }, { on := 3, ground := Ground.phase }], guard := none }) (v := ?vv21_8_4) rfl (by kernel_rfl) (by kernel_rfl) (by kernel_rfl) (fun _ _ _ h => h) (Or.inl ⟨by rfl, ?yy21_8_4⟩) hHeld ?_
      case yy21_8_4 => (intro W hx; go_simp; try with_reducible rfl)
      simp only [Act.put, List.setIfInBounds_toArray, List.set_cons_zero, List.set_cons_succ]
      refine wpAnyH_done (by kernel_rfl) ?_ _
      go_wp2
      try simp only [Exit.inBlock, Exit.then]
      refine bodyPost_ret (results_srs rfl rfl k9) rfl ?_
      refine ⟨rfl, ?_⟩
      have e9 : turnL false ss = (putN f (pl + 1) (n - (pl + 1)) (putN f 0 pl (ss.set pl s.done)).1).1 := by rw [HTU2.out, if_neg (by simp), if_neg (by simp), HGD.out]; have := skN_eq f pl (ss.set pl s.done) (by rw [List.length_set]; exact hplt); rw [List.length_set] at this; rw [HL.out, this]
      rw [e9]
      exact (P6.out.ext zz0).poke x03 HFL.out (Nat.le_refl _) hr3 x8
    · go_upto_region 8 with (fail)
      refine wp_region_held_drew (S := fun W => W.heap[w2.heap.size]? = some (.cells f.vals.toArray 34 (0, 0))) (by kernel_rfl) ((((Ext.refl _).drew).block _ (blk_lt k84)).trans k84) (fun hHeld => ?_)
      obtain ⟨wD6, hwD⟩ : ∃ V, V = World.drew w4 := ⟨_, rfl⟩
      rw [← hwD] at hHeld ⊢
      have zz0 : Ext w4 wD6 := by rw [hwD]; exact (Ext.refl _).drew
      clear hwD
      have k55 := (zz0.block _ (blk_lt k54)).trans k54
      refine wpAnyH_take (i := 0) (oi := { dst := some 37, op := Op.move (Operand.tmp 7), type := 3, pos := "bus.go:33", after := #[], guard := none }) (v := ?vv7_8_0) rfl (by kernel_rfl) (by kernel_rfl) (by kernel_rfl) (fun _ _ _ h => h) (Or.inl ⟨by rfl, ?yy7_8_0⟩) hHeld ?_
      case yy7_8_0 => (intro W hx; go_simp; try with_reducible rfl)
      simp only [Act.put, List.setIfInBounds_toArray, List.set_cons_zero, List.set_cons_succ]
      refine wpAnyH_take (i := 1) (oi := { dst := some 38, op := Op.load 34 (Operand.tmp 8), type := 34, pos := "bus.go:33", after := #[{ on := 2, ground := Ground.gcOnly Departure.lateStores }], guard := none }) (v := ?vv8_8_1) rfl (by kernel_rfl) (by kernel_rfl) (by kernel_rfl) (fun _ _ _ h => h) (Or.inl ⟨by rfl, ?yy8_8_1⟩) hHeld ?_
      case yy8_8_1 => (intro W hx; refine ld_op (frAt hx) ?_; rfl)
      simp only [Act.put, List.setIfInBounds_toArray, List.set_cons_zero, List.set_cons_succ]
      refine wpAnyH_take (i := 2) (oi := { dst := some 4, op := Op.assign (Operand.tmp 37), type := 3, pos := "bus.go:33", after := #[{ on := 0, ground := Ground.data }, { on := 0, ground := Ground.phase }, { on := 1, ground := Ground.textOnly Departure.lateStores }], guard := none }) (v := ?vv9_8_2) rfl (by kernel_rfl) (by kernel_rfl) (by kernel_rfl) (fun _ _ _ h => h) (Or.inl ⟨by rfl, ?yy9_8_2⟩) hHeld ?_
      case yy9_8_2 => (intro W hx; go_simp; try with_reducible rfl)
      simp only [Act.put, List.setIfInBounds_toArray, List.set_cons_zero, List.set_cons_succ]
      refine wpAnyH_ready (rs := [3]) (by kernel_rfl) (by simp) (AllReadyH.cons rfl (fun K hK => ?_) AllReadyH.nil)
      rw [if_pos (by rfl)]
      refine wp_strow (o := { dst := none, op := Op.store 34 (Operand.tmp 5) (Operand.tmp 38), type := 0, pos := "bus.go:33", after := #[{ on := 1, ground := Ground.data }, { on := 2, ground := Ground.chain }, { on := 0, ground := Ground.phase }, { on := 1, ground := Ground.phase }, { on := 2, ground := Ground.phase }], guard := none }) _ _ _ rfl k55 rfl rfl size37 rfl (all_oneCell_toArray (fr_one f)) ?_; intro w8 k9 x8
      simp only [Act.put]
      refine hK.out _ _ ((x8.block _ (blk_lt hHeld) (fun e => by injection e with e; omega)).trans hHeld) (fun hHeld => ?_)
      clear hK K
      refine wpAnyH_take (i := 4) (oi := { dst := some 6, op := Op.assign (Operand.const (Value.bool true)), type := 4, pos := "bus.go:33", after := #[{ on := 3, ground := Ground.chain }, { on := 0, ground := Ground.phase }, { on := 1, ground := Ground.phase }, { on := 2, ground := Ground.phase }, { on := 3, ground := Ground.phase }], guard := none }) (v := ?vv10_8_4) rfl (by kernel_rfl) (by kernel_rfl) (by kernel_rfl) (fun _ _ _ h => h) (Or.inl ⟨by rfl, ?yy10_8_4⟩) hHeld ?_
      case yy10_8_4 => (intro W hx; go_simp; try with_reducible rfl)
      simp only [Act.put, List.setIfInBounds_toArray, List.set_cons_zero, List.set_cons_succ]
      refine wpAnyH_done (by kernel_rfl) ?_ _
      go_wp2
      try simp only [Exit.inBlock, Exit.then]
      refine bodyPost_ret (results_srs rfl rfl k9) rfl ?_
      refine ⟨rfl, ?_⟩
      have e9 : turnL true ss = ss.set pl s.done := by rw [HTU2.out, HGD.out]; simp
      rw [e9]
      exact (P4.out.ext zz0).poke x03 HFL.out (Nat.le_refl _) hr3 x8
end Go.Proofs.Ytjdabmadpclbaaa
