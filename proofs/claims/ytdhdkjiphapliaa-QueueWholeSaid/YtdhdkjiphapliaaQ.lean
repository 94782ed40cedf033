import Derived.Test.YtdhdkjiphapliaaP
set_option linter.unusedVariables false
set_option linter.unusedSimpArgs false
namespace Go.Proofs.Ytdhdkjiphapliaa
open Go.RowKit
theorem own_slice {w : World} {base : Nat} {e : TypeId} {size : Nat} {v : Value} {n : Nat} {xs : List Value} (h : w.ownsRow base e size v n xs) : ∃ A c, v = .slice A n c := by
  rcases h.2 with ⟨rfl, rfl⟩ | ⟨g, cap, cur, rfl, _⟩
  · exact ⟨_, _, rfl⟩
  · exact ⟨_, _, rfl⟩
section
variable {w : World} {g : Nat} {s : QS} {rs : List Rp} {va : Tg → Value} {T : Nat → Option Tg}
theorem rnext_none (h : QuC w 45 g s rs va T) (h0 : s.l = []) : Calls Try.prog 15 #[.pointer (some ⟨g, 0, none⟩)] w fun e w' => e = .returned (.tuple #[.agg Rp.zero.vals.toArray, .bool false]) ∧ Ext w w' := by
  obtain ⟨A, c, e, h1, h2, k0, k1, kl, kf⟩ := h.cells
  have hl := h.len
  rw [h0] at hl
  rw [hl] at k1
  obtain ⟨w0, hw0⟩ : ∃ V, V = w.alloc (.cells Rp.zero.vals.toArray 38) := ⟨_, rfl⟩
  have k00 : w0.heap[w.heap.size]? = some (.cells Rp.zero.vals.toArray 38 (0, 0)) := by rw [hw0]; exact heap_alloc_new _ _
  have x0 : Ext w w0 := by rw [hw0]; exact (Ext.refl _).alloc _
  have q1 := cell_ext x0 k1
  clear h h0 e h1 h2 k0 k1 kl kf hl
  go_enter Try.func15, Try.ntmps15
  go_upto_region 1 with (fail)
  change Code.wp _ _ _ _ (w.alloc (.cells Rp.zero.vals.toArray 38))
  rw [← hw0]
  clear hw0
  go_wp2_with (first | refine wpList_ldrow rfl 38 (.tmp 4) rfl k00 rfl Try.underlying38 rfl (by kernel_rfl) ?_ | (refine wpList_strow rfl 38 (.tmp 2) (.tmp 11) rfl k00 rfl rfl size38 rfl (all_oneCell_toArray (rp_one Rp.zero)) ?_; intro w5 k5 x5))
  try simp only [Exit.inBlock, Exit.then]
  refine bodyPost_ret (results_row2 rfl rfl k5 Try.underlying38 rfl (by kernel_rfl)) rfl ?_
  exact ⟨rfl, Ext.of_grown x0 x5 (fun k e => by injection e with e; omega)⟩
set_option maxRecDepth 100000 in
set_option maxHeartbeats 4000000 in
theorem rnext_some (h : QuC w 45 g s rs va T) {p : Pk} {l : List Pk} (hp : s.l = p :: l) : Calls Try.prog 15 #[.pointer (some ⟨g, 0, none⟩)] w fun e w' => ∃ r : Rp, r.pk = p ∧ e = .returned (.tuple #[.agg r.vals.toArray, .bool true]) ∧ r.ok w' ∧ r ∈ rs ∧ QPost w w' 45 g s.next rs T := by
  obtain ⟨r, rs', rfl, hrp⟩ : ∃ r rs', rs = r :: rs' ∧ r.pk = p := by
    have := h.pk
    rw [hp] at this
    cases rs with
    | nil => cases this
    | cons r rs' => simp at this; exact ⟨r, rs', rfl, this.1⟩
  have hpk' : rs'.map Rp.pk = l := by
    have := h.pk
    rw [hp] at this
    simp at this
    exact this.2
  have HL0 := Lib.hid hp
  have hln := h.len
  have hsl : s.l.length = rs'.length + 1 := by rw [← hln]; rfl
  have hsm := h.ok.n
  have hsm2 := h.ok.m2
  have HC := Lib.hid h
  obtain ⟨A, c, e, h1, h2, k0, k1, kl, kf⟩ := h.cells
  have hrow := h.row
  rw [e] at hrow
  obtain ⟨rb, cur, rfl, ht, h3, h4, h5, h6⟩ := own_some hrow (by simp)
  obtain ⟨b, o, hbo, hbl, hr⟩ := Shows.row rp_len (by omega) (Shows.of_own hrow) rfl (i := 0) (a := r) rfl
  injection hbo with hbo
  injection hbo with hb ho
  subst hb ho
  simp only [Nat.zero_mul, Nat.add_zero] at hr
  have hsh := Shows.of_own hrow
  have hfz := kf 1 (by omega)
  have HE := Lib.hid (And.intro e (And.intro hrp (And.intro hpk' hsl)))
  obtain ⟨w0, hw0⟩ : ∃ V, V = w.alloc (.cells Rp.zero.vals.toArray 38) := ⟨_, rfl⟩
  have k00 : w0.heap[w.heap.size]? = some (.cells Rp.zero.vals.toArray 38 (0, 0)) := by rw [hw0]; exact heap_alloc_new _ _
  have x0 : Ext w w0 := by rw [hw0]; exact (Ext.refl _).alloc _
  have hr0 := rangeAt_ext hr x0
  have q1 := cell_ext x0 k1
  obtain ⟨n, hn⟩ : ∃ n, n = (r :: rs').length := ⟨_, rfl⟩
  have hn0 : 0 < n := by rw [hn]; simp
  have hn1 : 1 ≤ n := hn0
  have hn0I : (0 : Int) < n := by omega
  have hne : ((n : Int) == 0) = false := by simp; omega
  have hne2 : ¬ ((n : Int) = 0) := by omega
  rw [← hn] at q1 hsh h3
  obtain ⟨pA, hpA⟩ : ∃ pA, (if c = 1 then some (⟨rb, 0, none⟩ : Addr) else some ⟨rb, 3, none⟩) = some pA := by split <;> exact ⟨_, rfl⟩
  have hnc2 := h3
  have hcm := h4
  unfold maxLen at hcm
  have hc1 : 1 ≤ c := by omega
  have hshd : Shows w 3 (some pA) (n - 1) (rps rs') := by
    have := Shows.drop hsh (k := 1) hn1 h3
    rw [rps_drop (r :: rs') 1] at this
    rw [← hpA]
    simpa [Addr.add_mid] using this
  have HSH := Lib.hid hshd
  have HSN := Lib.hid (show n = rs'.length + 1 ∧ n ≤ 64 from ⟨by rw [hn]; rfl, by rw [hn]; show rs'.length + 1 ≤ 64; omega⟩)
  clear h e h1 h2 k0 k1 kl kf hrow ht h3 h4 h5 h6 hr hp hrp hpk' hln hsl hn hbl hsh hsm hsm2 hshd
  go_enter Try.func15, Try.ntmps15
  go_upto_region 1 with (fail)
  change Code.wp _ _ _ _ (w.alloc (.cells Rp.zero.vals.toArray 38))
  rw [← hw0]
  clear hw0
  go_upto_region 4 with (first | refine wpList_load_mid rfl 38 _ rfl _ _ rfl r.vals _ hr0 Try.underlying38 rfl size38 ?_ | refine wpList_stnew rfl 38 _ _ rfl rfl r.vals rfl rfl size38 rfl (rp_one r) ?_)
  obtain ⟨w1, hw1⟩ : ∃ V, V = w0.alloc (.cells r.vals.toArray 38) := ⟨_, rfl⟩
  have k1 : w1.heap[w0.heap.size]? = some (.cells r.vals.toArray 38 (0, 0)) := by rw [hw1]; exact heap_alloc_new _ _
  have x1 : Ext w0 w1 := by rw [hw1]; exact (Ext.refl _).alloc _
  have x01 := x0.trans x1
  have KG := (HC.out.ext x01).obj
  have q1b := cell_ext x1 q1
  rw [← hw1]
  clear hw1 q1 hr0 hn0I hne hne2
  have KGs := blk_lt KG
  go_upto_region 5 with (at_builtin; refine wpList_app el32 rfl _ _ rfl (World.ownsRow_made w1 #[] 0 (Nat.le_refl _) (by simp) rfl) rfl (HSH.out.ext (x01.trans ((Ext.refl _).alloc _))) rfl (rps_one _) (le_max (by have := HSN.out; omega)) (by have := HSN.out; omega) rfl ((Ext.refl _).alloc _) ?_; intro v9 w3 ow9 x3 hg9 hat9; simp only [List.nil_append, Nat.zero_add] at ow9; obtain ⟨A3, c3, rfl⟩ := own_slice ow9; have q3 := cell_ext x3 q1b; have z3 := blk_free (i := 1) ((x3.block _ (blk_lt KG)).trans KG); obtain ⟨B, hB⟩ : ∃ B, Value.ownBlock (.slice A3 (n - 1) c3) = some B := hat9.elim (fun h => ⟨_, h⟩) (fun h => ⟨_, h⟩); have HO := Lib.hid (And.intro ow9 (And.intro x3 hB)))
  have QR := qu_rowN (rs' := rs') (l' := l) (HC.out.ext x01) HO.out.2.1 (by have := HO.out.1; rw [HSN.out.1] at this; exact this) (by have := HO.out.2.2; rw [HSN.out.1] at this; exact this) HE.out.2.2.1 (by have := HC.out.ok.n; have := HE.out.2.2.2; have := congrArg List.length HE.out.2.2.1; rw [List.length_map] at this; omega) (fun y hy => (HC.out.rok y (List.mem_cons_of_mem _ hy)).ext x01) (fun y hy ad e => ⟨(HC.out.far y (List.mem_cons_of_mem _ hy) ad e).1, Nat.lt_of_lt_of_le (HC.out.far y (List.mem_cons_of_mem _ hy) ad e).2 x01.size⟩)
  obtain ⟨-, va9, T9, Q9, k9, b9⟩ := QR
  rw [show rs'.length + 1 - 1 = n - 1 by rw [HSN.out.1]] at Q9 k9
  obtain ⟨w4, hw4⟩ : ∃ V, V = w3.setCell ⟨g, 1, none⟩ (.slice A3 (n - 1) c3) := ⟨_, rfl⟩
  rw [← hw4] at Q9 k9 ⊢
  have hgl := HC.out.O.lt _ _ HC.out.tg
  have sz01 : w.heap.size < w0.heap.size := blk_lt k00
  have k34 : w3.grownBy w4 (some g) := by rw [hw4]; exact set_grown _ _ _ _
  have k14 := grown_lt ((x3.block _ (blk_lt k1)).trans k1) k34 (fun e => by injection e with e; omega)
  have k04 := grown_lt (((x1.trans x3).block _ (blk_lt k00)).trans k00) k34 (fun e => by injection e with e; omega)
  have HQ := Lib.hid (And.intro Q9 (And.intro k9 b9))
  have HSZ := Lib.hid (show w.heap.size < w1.heap.size from Nat.lt_of_lt_of_le sz01 x1.size)
  have HT0 := Lib.hid (show ∀ t, T w.heap.size = some t → False from fun t e => by have := HC.out.O.lt _ _ e; omega)
  clear hw4 k34 Q9 k9 b9 ow9 x3 hg9 hat9 hB q3 z3 k1 k00 q1b KG
  go_wp2_with (first | refine wpList_ldrow rfl 38 (.tmp 4) rfl k14 rfl Try.underlying38 rfl (by kernel_rfl) ?_ | (refine wpList_strow rfl 38 (.tmp 2) (.tmp 28) rfl k04 rfl rfl size38 rfl (all_oneCell_toArray (rp_one r)) ?_; intro w5 k5 x5))
  try simp only [Exit.inBlock, Exit.then]
  refine bodyPost_ret (results_row2 rfl rfl k5.out Try.underlying38 rfl (by kernel_rfl)) rfl ?_
  have k5' : Kept (· = w.heap.size) w4 w5 := .of_grown x5 (fun b e => by injection e with e; exact e.symm)
  have hTn : ∀ b t, T9 b = some t → ¬ b = w.heap.size := fun b t hb e => by
    rcases HQ.out.2.2 b t hb with h | h
    · obtain ⟨t', ht'⟩ := Option.ne_none_iff_exists'.1 h
      rw [e] at ht'
      exact HT0.out t' ht'
    · have := HSZ.out; omega
  have hok := (((HC.out.rok r (by simp)).ext x01).kept HQ.out.2.1 (fun ad e h => h (HC.out.far r (by simp) ad e).1)).kept k5' (fun ad e h => by have := (HC.out.far r (by simp) ad e).2; omega)
  refine ⟨r, HE.out.2.1, rfl, hok, by simp, rs', va9, T9, ?_, ?_, fun b t hb => (HQ.out.2.2 b t hb).imp id (fun h => Nat.le_trans x01.size h), fun y hy ad e => .inl ⟨y, List.mem_cons_of_mem _ hy, e⟩⟩
  · have hl : s.next = { s with l := l } := by unfold QS.next; rw [HL0.out]; rfl
    rw [hl]
    exact HQ.out.1.kept k5' hTn (fun y hy ad e h => by have := (HC.out.far y (List.mem_cons_of_mem _ hy) ad e).2; omega)
  · exact ((Kept.of_ext x01).trans' HQ.out.2.1).trans k5' (fun i hi h => by omega)
end
end Go.Proofs.Ytdhdkjiphapliaa
