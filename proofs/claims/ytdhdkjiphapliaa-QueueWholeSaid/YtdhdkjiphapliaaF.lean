import Derived.Test.YtdhdkjiphapliaaE
set_option linter.unusedVariables false
set_option linter.unusedSimpArgs false
namespace Go.Proofs.Ytdhdkjiphapliaa
open Go.RowKit
def Rp.zero : Rp := ⟨0, 0, none, 0, 0, []⟩
theorem own_some {w : World} {base : Nat} {e : TypeId} {size n c : Nat} {A : Option Addr} {xs : List Value} (h : w.ownsRow base e size (.slice A n c) n xs) (hn : 0 < n) :
    ∃ b cur, A = some ⟨b, 0, none⟩ ∧ w.heap[b]? = some (.cells cur e (0, 0)) ∧ n ≤ c ∧ c ≤ maxLen ∧ cur.size = c * size ∧ cur.toList.take (n * size) = xs := by
  rcases h.2 with ⟨h1, h2⟩ | ⟨g, cap, cur, h1, _, hg, h3, h4, h5, h6⟩
  · omega
  · injection h1 with h1 _ h2
    subst h2
    exact ⟨g, cur, h1, hg, h3, h4, h5, h6⟩
theorem rangeAt_ext {w w' : World} {b o : Nat} {cs : List Value} (h : w.rangeAt b o cs) (x : Ext w w') : w'.rangeAt b o cs := fun j v hj => by
  have := h j v hj
  exact (Below.cell x (p := ⟨b, o + j, none⟩) (World.block_lt_of_cell? w _ this)).trans this
theorem del0 {w : World} {g n cap : Nat} {cur : Array Value} {l : List Rp} (hg : w.heap[g]? = some (.cells cur 38 (0, 0))) (hn : n ≤ cap) (hc : cap ≤ maxLen) (hcs : cur.size = cap * 3) (ht : cur.toList.take (n * 3) = rps l) (hl : l.length = n) (hi : 0 < n) :
    Calls Try.prog 22 #[.slice (some ⟨g, 0, none⟩) n cap, .int .i64 0, .int .i64 1] w fun e w' => e = .returned (.slice (some ⟨g, 0, none⟩) (n - 1) cap) ∧ w'.ownsRow 0 38 3 (.slice (some ⟨g, 0, none⟩) (n - 1) cap) (n - 1) (rps (l.eraseIdx 0)) ∧ w.grownBy w' (some g) :=
  del_any (i := 0) hg hn hc hcs ht hl hi
def QS.next (s : QS) : QS := { s with l := s.l.tail }
theorem next_nil (w : World) : Calls Try.prog 14 #[.pointer none] w fun e w' => e = .returned (.tuple #[.agg Rp.zero.vals.toArray, .bool false]) ∧ Ext w w' := by
  go_enter Try.func14, Try.ntmps14
  go_wp2_with (go_at_call 19; (refine (len_nil _).mono ?_); rintro e w1 ⟨rfl, rfl⟩)
  try simp only [Exit.inBlock, Exit.then]
  refine bodyPost_ret (results_row2 rfl rfl (heap_alloc_new w _) Try.underlying38 rfl (by kernel_rfl)) rfl ?_
  exact ⟨rfl, (Ext.refl _).alloc _⟩
section
variable {w : World} {g : Nat} {s : QS} {rs : List Rp} {va : Tg → Value} {T : Nat → Option Tg}
set_option maxHeartbeats 4000000 in
theorem next_some (h : QuC w 54 g s rs va T) {p : Pk} {l : List Pk} (hp : s.l = p :: l) : Calls Try.prog 14 #[.pointer (some ⟨g, 0, none⟩)] w fun e w' => ∃ r : Rp, r.pk = p ∧ e = .returned (.tuple #[.agg r.vals.toArray, .bool true]) ∧ r.ok w' ∧ r ∈ rs ∧ QPost w w' 54 g s.next rs T := by
  obtain ⟨r, rs', rfl, hrp⟩ : ∃ r rs', rs = r :: rs' ∧ r.pk = p := by
    have := h.pk
    rw [hp] at this
    cases rs with
    | nil => cases this
    | cons r rs' => simp at this; exact ⟨r, rs', rfl, this.1⟩
  have hpk' : rs'.map Rp.pk = l := by
    have := h.pk
    rw [hp] at this
    simp at this
    exact this.2
  have HL0 := Lib.hid hp
  have hln := h.len
  have hsl : s.l.length = rs'.length + 1 := by rw [← hln]; rfl
  have HC := Lib.hid h
  obtain ⟨A, c, e, h1, h2, k0, k1, kl, kf⟩ := h.cells
  have hrow := h.row
  rw [e] at hrow
  obtain ⟨rb, cur, rfl, ht, h3, h4, h5, h6⟩ := own_some hrow (by simp)
  obtain ⟨b, o, hbo, hbl, hr⟩ := Shows.row rp_len (by omega) (Shows.of_own hrow) rfl (i := 0) (a := r) rfl
  injection hbo with hbo
  injection hbo with hb ho
  subst hb ho
  simp only [Nat.zero_mul, Nat.add_zero] at hr
  have HD := Lib.hid (fun W (x : Ext w W) => del0 ((x.block _ (blk_lt ht)).trans ht) h3 h4 h5 h6 rfl (by simp))
  have hcell1 := k1
  have hfz := kf 1 (by omega)
  have HE := Lib.hid (And.intro e (And.intro hrp (And.intro hpk' hsl)))
  have hlt := hbl
  obtain ⟨w0, hw0⟩ : ∃ V, V = w.alloc (.cells Rp.zero.vals.toArray 38) := ⟨_, rfl⟩
  have k00 : w0.heap[w.heap.size]? = some (.cells Rp.zero.vals.toArray 38 (0, 0)) := by rw [hw0]; exact heap_alloc_new _ _
  have x0 : Ext w w0 := by rw [hw0]; exact (Ext.refl _).alloc _
  have hr0 := rangeAt_ext hr x0
  have q1 := cell_ext x0 k1
  obtain ⟨n, hn⟩ : ∃ n, n = (r :: rs').length := ⟨_, rfl⟩
  have hn0 : 0 < n := by rw [hn]; simp
  have hn0I : (0 : Int) < n := by omega
  have hsn : s.l.length = n := by rw [hn, ← hln]
  have hne : ((n : Int) == 0) = false := by simp; omega
  have hne2 : ¬ ((n : Int) = 0) := by omega
  rw [← hn] at q1 HD
  have HSN := Lib.hid (And.intro hsn hn)
  clear h e h1 h2 k0 k1 kl kf hrow ht h3 h4 h5 h6 hr hp hrp hpk' hln hsl hcell1 hsn hn hbl
  go_enter Try.func14, Try.ntmps14
  go_upto_region 3 with (go_at_call 19; (refine (len_any (HC.out.ext ((Ext.refl _).alloc _))).mono ?_); rw [HSN.out.1]; rintro e w1 ⟨rfl, rfl⟩)
  change Code.wp _ _ _ _ (w.alloc (.cells Rp.zero.vals.toArray 38))
  rw [← hw0]
  clear hw0
  go_upto_region 4 with (first | refine wpList_load_mid rfl 38 _ rfl _ _ rfl r.vals _ hr0 Try.underlying38 rfl size38 ?_ | refine wpList_stnew rfl 38 _ _ rfl rfl r.vals rfl rfl size38 rfl (rp_one r) ?_)
  obtain ⟨w1, hw1⟩ : ∃ V, V = w0.alloc (.cells r.vals.toArray 38) := ⟨_, rfl⟩
  have k1 : w1.heap[w0.heap.size]? = some (.cells r.vals.toArray 38 (0, 0)) := by rw [hw1]; exact heap_alloc_new _ _
  have x1 : Ext w0 w1 := by rw [hw1]; exact (Ext.refl _).alloc _
  rw [← hw1]
  clear hw1 q1 hr0
  have x01 := x0.trans x1
  obtain ⟨A', c', e', _, _, _, q1, _, _⟩ := (HC.out.ext x01).cells
  rw [HE.out.1] at e'
  injection e' with e1 e2 e3
  subst e1 e3
  rw [← HSN.out.2] at q1
  clear e2
  go_upto_region 5 with (go_at_call 22; (refine (HD.out _ x01).mono ?_); rintro e w3 ⟨rfl, ow3, x3⟩; have QR := qu_row (B := rb) (rs' := rs') (l' := l) (HC.out.ext x01) (Ext.refl _) (by have := ow3; rw [HSN.out.2] at this; exact this) (by rw [HE.out.1]; exact x3) rfl (.inl (by rw [HE.out.1]; rfl)) HE.out.2.2.1 (by have := HC.out.ok.n; have := HE.out.2.2.2; have := congrArg List.length HE.out.2.2.1; rw [List.length_map] at this; omega) (fun y hy => (HC.out.rok y (List.mem_cons_of_mem _ hy)).ext x01) (fun y hy ad e => ⟨(HC.out.far y (List.mem_cons_of_mem _ hy) ad e).1, Nat.lt_of_lt_of_le (HC.out.far y (List.mem_cons_of_mem _ hy) ad e).2 x01.size⟩); obtain ⟨⟨hfz9, u9, hcell9⟩, va9, T9, Q9, k9, b9⟩ := QR)
  obtain ⟨w4, hw4⟩ : ∃ V, V = w3.setCell ⟨g, 1, none⟩ (.slice (some ⟨rb, 0, none⟩) (n - 1) c) := ⟨_, rfl⟩
  rw [← HSN.out.2] at Q9 k9
  rw [← hw4] at Q9 k9 ⊢
  have hgl := HC.out.O.lt _ _ HC.out.tg
  have sz01 : w.heap.size < w0.heap.size := blk_lt k00
  have k34 : w3.grownBy w4 (some g) := by rw [hw4]; exact set_grown _ _ _ _
  have k14 := grown_lt (grown_lt k1 x3 (fun e => by injection e with e; omega)) k34 (fun e => by injection e with e; omega)
  have k04 := grown_lt (grown_lt ((x1.block _ (blk_lt k00)).trans k00) x3 (fun e => by injection e with e; omega)) k34 (fun e => by injection e with e; omega)
  have HQ := Lib.hid (And.intro Q9 (And.intro k9 b9))
  have HSZ := Lib.hid (show w.heap.size < w1.heap.size from Nat.lt_of_lt_of_le sz01 x1.size)
  have HT0 := Lib.hid (show ∀ t, T w.heap.size = some t → False from fun t e => by have := HC.out.O.lt _ _ e; omega)
  clear hw4 k34 Q9 k9 b9 ow3 x3 hcell9 hfz9 k1 k00 q1
  go_wp2_with (first | refine wpList_ldrow rfl 38 (.tmp 4) rfl k14 rfl Try.underlying38 rfl (by kernel_rfl) ?_ | (refine wpList_strow rfl 38 (.tmp 2) (.tmp 23) rfl k04 rfl rfl size38 rfl (all_oneCell_toArray (rp_one r)) ?_; intro w5 k5 x5))
  try simp only [Exit.inBlock, Exit.then]
  refine bodyPost_ret (results_row2 rfl rfl k5.out Try.underlying38 rfl (by kernel_rfl)) rfl ?_
  have k5' : Kept (· = w.heap.size) w4 w5 := .of_grown x5 (fun b e => by injection e with e; exact e.symm)
  have hTn : ∀ b t, T9 b = some t → ¬ b = w.heap.size := fun b t hb e => by
    rcases HQ.out.2.2 b t hb with h | h
    · obtain ⟨t', ht'⟩ := Option.ne_none_iff_exists'.1 h
      rw [e] at ht'
      exact HT0.out t' ht'
    · have := HSZ.out; omega
  have hok := (((HC.out.rok r (by simp)).ext x01).kept HQ.out.2.1 (fun ad e h => h (HC.out.far r (by simp) ad e).1)).kept k5' (fun ad e h => by have := (HC.out.far r (by simp) ad e).2; omega)
  refine ⟨r, HE.out.2.1, rfl, hok, by simp, rs', va9, T9, ?_, ?_, fun b t hb => (HQ.out.2.2 b t hb).imp id (fun h => Nat.le_trans x01.size h), fun y hy ad e => .inl ⟨y, List.mem_cons_of_mem _ hy, e⟩⟩
  · have hl : s.next = { s with l := l } := by unfold QS.next; rw [HL0.out]; rfl
    rw [hl]
    exact HQ.out.1.kept k5' hTn (fun y hy ad e h => by have := (HC.out.far y (List.mem_cons_of_mem _ hy) ad e).2; omega)
  · exact ((Kept.of_ext x01).trans' HQ.out.2.1).trans k5' (fun i hi h => by omega)
end
end Go.Proofs.Ytdhdkjiphapliaa
