import Derived.Test.YtdhdkjiphapliaaD
set_option linter.unusedVariables false
set_option linter.unusedSimpArgs false
namespace Go.Proofs.Ytdhdkjiphapliaa
open Go.RowKit
/-- k packets of a sample are put. -/
def QS.part (s : QS) (b : Bool) (l : List Pk) (k : Nat) : QS := { s with l := s.l ++ (mark b l).take k }
theorem part_ok {s : QS} {b : Bool} {l : List Pk} {k : Nat} (h : s.ok) (hn : s.l.length + l.length ≤ s.most) : (s.part b l k).l.length ≤ s.most := by
  simp only [QS.part, List.length_append, List.length_take, mark_len]; omega
theorem part_succ {s : QS} {b : Bool} {l : List Pk} {k : Nat} {p : Pk} (h : l[k]? = some p) : (s.part b l k).l ++ [if b = true ∧ k = 0 then { p with code := p.code + 64 } else p] = (s.part b l (k + 1)).l := by
  simp only [QS.part, List.append_assoc]
  rw [List.take_add_one, mark_get h]
  rfl
/-- a packet is appended to a queue's row: region by region. -/
theorem qu_app {w w1 w2 : World} {ty : TypeId} {g : Nat} {s : QS} {rs : List Rp} {va : Tg → Value} {T : Nat → Option Tg} {v : Value} {B : Nat} {r : Rp} (h : QuC w ty g s rs va T) (x : Ext w w1) (hr : r.ok w) (hA : ∀ ad, r.A = some ad → T ad.block = none ∧ ad.block < w.heap.size)
    (hv : w2.ownsRow 0 38 3 v (rs.length + 1) (rps rs ++ rps [r])) (hg : w1.grownBy w2 (va (1, 0, 0)).ownBlock) (hb : v.ownBlock = some B) (hat : v.ownBlock = (va (1, 0, 0)).ownBlock ∨ v.ownBlock = some w1.heap.size) (hn : s.l.length + 1 ≤ s.most) :
    (w2.frozen? ⟨g, 1, none⟩ = false ∧ ∃ u, w2.cell? ⟨g, 1, none⟩ = some u) ∧ ∃ va' T', QuC (w2.setCell ⟨g, 1, none⟩ v) ty g { s with l := s.l ++ [r.pk] } (rs ++ [r]) va' T' ∧ Kept (fun b => T b ≠ none) w (w2.setCell ⟨g, 1, none⟩ v) ∧ (∀ b t, T' b = some t → T b ≠ none ∨ w.heap.size ≤ b) := by
  refine qu_row h x (by rw [List.length_append, rps_app]; exact hv) hg hb hat (by rw [List.map_append, h.pk]; rfl) (by simp; exact hn) (fun y hy => ?_) (fun y hy ad e => ?_)
  · rcases List.mem_append.1 hy with hy | hy
    · exact (h.rok y hy).ext x
    · simp at hy; subst hy; exact hr.ext x
  · rcases List.mem_append.1 hy with hy | hy
    · exact ⟨(h.far y hy ad e).1, Nat.lt_of_lt_of_le (h.far y hy ad e).2 x.size⟩
    · simp at hy; subst hy; exact ⟨(hA ad e).1, Nat.lt_of_lt_of_le (hA ad e).2 x.size⟩
section
variable {w : World} {g : Nat} {s : QS} {rs : List Rp} {va : Tg → Value} {T : Nat → Option Tg}
set_option maxRecDepth 100000 in
set_option maxHeartbeats 8000000 in
theorem put_ok (h : QuC w 54 g s rs va T) {j : Nat} (hj : j < 4) {A : Option Addr} {n : Nat} (c : Nat) {xs : List Rp} (hs : Shows w 3 A n (rps xs)) (hn : n = xs.length) (hm : n ≤ 100000) (hx : ∀ x ∈ xs, x.ok w ∧ x.n ≤ 100000) (hA : ∀ ad, A = some ad → T ad.block = none) (hxA : ∀ x ∈ xs, ∀ ad, x.A = some ad → 0 < x.n → T ad.block = none)
    (hf : samp (xs.map Rp.pk) = true) (hfull : ¬ s.most < s.l.length + n) :
    Calls Try.prog 12 #[.pointer (some ⟨g, 0, none⟩), .int .i64 (j : Int), .slice A n c] w fun e w' => e = .returned (.bool true) ∧ QPost w w' 54 g { s with l := s.l ++ mark (s.lost.getD j false) (xs.map Rp.pk), lost := s.lost.set j false } rs T := by
  have HI := Lib.hid (is_any (w := w) c hs hn hm)
  rw [hf] at HI
  have h4 : (j : Int) < 4 := by omega
  have h4' : ¬ (4 : Int) ≤ j := by omega
  have HH := Lib.hid h
  have hl := h.ok.n
  have hm2 := h.ok.m2
  have hn64 : n ≤ 64 := by omega
  obtain ⟨z, hz⟩ : ∃ z, z = s.l.length + n := ⟨_, rfl⟩
  have hzI : (s.l.length : Int) + n = (z : Int) := by omega
  have hzm : ¬ (s.most : Int) < z := by omega
  have z63 : z < 9223372036854775808 := by omega
  obtain ⟨ln, hln⟩ : ∃ ln, ln = s.l.length := ⟨_, rfl⟩
  rw [← hln] at hzI
  have HLN := Lib.hid hln
  have hcode : ∀ x ∈ xs, x.code < 64 := fun x hx => by
    simp only [samp, Bool.and_eq_true, List.all_eq_true, decide_eq_true_eq] at hf
    exact hf.1 x.pk (List.mem_map_of_mem hx)
  have HP := Lib.hid (And.intro hs (And.intro hn (And.intro hx (And.intro hA (And.intro hxA hcode)))))
  have HFU := Lib.hid (show s.l.length + (xs.map Rp.pk).length ≤ s.most by rw [List.length_map, ← hn]; omega)
  clear h hf hs hl hm2 hz hln hn hm hfull hx hA hxA hcode
  have uz := wri z z63
  clear z63
  go_enter Try.func12, Try.ntmps12
  go_upto_region 3 with (go_at_call 20; (refine HI.out.mono ?_); rintro e w1 ⟨rfl, x1⟩)
  have H1 := HH.out.ext x1
  obtain ⟨A1, c1, e, h1, h2, k0, k1, kl, kf⟩ := H1.cells
  rw [H1.len, ← HLN.out] at k1
  have HX := Lib.hid H1
  clear H1 e h1 h2 kl kf
  go_quiet (fail)
  obtain ⟨w2, hWq⟩ : ∃ z : World, z = World.drewN w1 nq := ⟨_, rfl⟩
  rw [← hWq]
  have xw2 : Ext w1 w2 := by rw [hWq]; exact (Ext.refl _).drewN _
  clear hWq
  go_upto_region 7 with (fail)
  have hdN : decide (s.most < z) = false := by simp; omega
  rw [hdN]
  clear hzI hzm uz k0 k1 hdN
  have x12 := x1.trans xw2
  have H2 := Lib.hid (HH.out.ext x12)
  go_loopw [44] (fun v wr => ∃ (k : Nat) (rk : List Rp) (vk : Tg → Value) (Tk : Nat → Option Tg), v = .int .i64 k ∧ k ≤ n ∧ QuC wr 54 g (s.part (s.lost.getD j false) (xs.map Rp.pk) k) rk vk Tk ∧ Kept (fun b => T b ≠ none) w wr ∧ (∀ b t, Tk b = some t → T b ≠ none ∨ w.heap.size ≤ b) ∧ FromR w rs rk) (fun v _ => n - (intOf v).toNat)
  case atStart => exact ⟨0, _, _, _, rfl, Nat.zero_le _, by have := H2.out; simpa [QS.part] using this, .of_ext x12, fun b t hb => .inl (by rw [hb]; simp), FromR.same _ _⟩
  case round =>
    obtain ⟨k, rk, vk, Tk, rfl, hk, Q, kp, hTk, hFR⟩ := hrel
    have HFR := Lib.hid hFR
    clear hFR
    obtain ⟨wo, rfl⟩ : ∃ z : World, z = wr := ⟨_, rfl⟩
    by_cases hlt : k < n
    · have hkn : (k : Int) < n := by omega
      obtain ⟨r, hr⟩ : ∃ r, xs[k]? = some r := ⟨_, List.getElem?_eq_getElem (by have := HP.out.2.1; omega)⟩
      have hmem := List.mem_of_getElem? hr
      have hso := (HP.out.1).kept kp (fun ad e h => h (HP.out.2.2.2.1 ad e))
      obtain ⟨b, o, hA', hb, hrr⟩ := Shows.row rp_len (by omega) hso HP.out.2.1 hr
      have hrd := ((HP.out.2.2.1 r hmem).1).keptN kp (fun ad e h0 h => h (HP.out.2.2.2.2.1 r hmem ad e h0))
      have hrn := (HP.out.2.2.1 r hmem).2
      have hrc := HP.out.2.2.2.2.2 r hmem
      have HR := Lib.hid (And.intro hrd (And.intro hrn (And.intro hrc (show (xs.map Rp.pk)[k]? = some r.pk by rw [List.getElem?_map, hr]; rfl))))
      have HQ := Lib.hid Q
      have HK := Lib.hid (And.intro kp hTk)
      subst hA'
      clear Q kp hTk hr hmem hso hrd hrn hrc
      go_upto_region 9 with (first | refine wpList_load_mid rfl 38 _ rfl _ _ rfl r.vals _ hrr Try.underlying38 rfl size38 ?_ | refine wpList_stnew rfl 38 _ _ rfl rfl r.vals rfl rfl size38 rfl (rp_one r) ?_)
      obtain ⟨w4, hw4⟩ : ∃ V, V = wo.alloc (.cells r.vals.toArray 38) := ⟨_, rfl⟩
      have k4 : w4.heap[wo.heap.size]? = some (.cells #[.int .u8 r.kind, .int .u8 r.code, .slice r.A r.n r.c] 38 (0, 0)) := by rw [hw4]; exact heap_alloc_new _ _
      have x4 : Ext wo w4 := by rw [hw4]; exact (Ext.refl _).alloc _
      rw [← hw4]
      clear hw4 hrr
      have m2 : w4.cell? ⟨wo.heap.size, 2, none⟩ = some (.slice r.A r.n r.c) := blk_cell k4 rfl
      have f2 : w4.frozen? ⟨wo.heap.size, 2, none⟩ = false := blk_free k4
      have HK4 := Lib.hid k4
      clear k4
      go_upto_region 10 with (go_at_call 21; (refine (cl_any r.c (HR.out.1.rd.ext x4) HR.out.2.1).mono ?_); rintro e w5 ⟨v5, rfl, x5, o5⟩; obtain ⟨A5, c5, rfl, hc5, hm5, _⟩ := own_form o5; have m2 := cell_ext x5 (blk_cell HK4.out rfl : w4.cell? ⟨wo.heap.size, 2, none⟩ = _); have f2 : w5.frozen? ⟨wo.heap.size, 2, none⟩ = false := blk_free ((x5.block _ (blk_lt HK4.out)).trans HK4.out))
      have hnb5 : ∀ ad, A5 = some ad → wo.heap.size ≤ ad.block := fun ad e => by have h1 := (o5.lt ad.block (by rw [e]; rfl)).1; have := x4.size; omega
      have hne5 : ∀ ad, A5 = some ad → ad.block ≠ wo.heap.size := fun ad e e2 => by have h1 := (o5.lt ad.block (by rw [e]; rfl)).1; have := blk_lt HK4.out; omega
      obtain ⟨w6, hw6⟩ : ∃ V, V = w5.setCell ⟨wo.heap.size, 2, none⟩ (.slice A5 r.n c5) := ⟨_, rfl⟩
      have k6 : w6.heap[wo.heap.size]? = some (.cells #[.int .u8 r.kind, .int .u8 r.code, .slice A5 r.n c5] 38 (0, 0)) := by rw [hw6]; exact blk_set ((x5.block _ (blk_lt HK4.out)).trans HK4.out)
      have X6 : Ext wo w6 := by rw [hw6]; exact (x4.trans x5).setCell (Nat.le_refl _) _
      have k45 : Kept (fun b => b = wo.heap.size) w5 w6 := by rw [hw6]; exact Kept.of_set _ rfl
      rw [← hw6]
      have o6 := own_keptF o5 k45 (fun b hb e => by have := (o5.lt b hb).1; have := blk_lt HK4.out; omega)
      clear hw6 k45 m2 f2 o5
      have rd6 : Rd w6 A5 r.n r.bs := ⟨Shows.of_own o6, HR.out.1.rd.byts⟩
      have far6 : ∀ ad, A5 = some ad → Tk ad.block = none ∧ ad.block < w6.heap.size := fun ad e => by
        have h1 := o6.lt ad.block (by rw [e]; rfl)
        refine ⟨?_, h1.2⟩
        rcases et : Tk ad.block with _ | t
        · rfl
        · have := HQ.out.O.lt _ _ et; have := x4.size; omega
      have HF6 := Lib.hid (And.intro rd6 far6)
      have HK6 := Lib.hid k6
      clear rd6 far6 k6 o6
      have HNE5 := Lib.hid (show ∀ ad, A5 = some ad → ad.block ≠ wo.heap.size from hne5)
      have HNB := Lib.hid hnb5
      clear hne5 hnb5
      obtain ⟨A9, c9', e9, _, _, _, _, kl, _⟩ := (HQ.out.ext X6).cells
      have kj : w6.cell? ⟨g, 2 + j, none⟩ = some (.bool (s.lost.getD j false)) := kl j hj
      clear kl e9
      obtain ⟨bl, hbl⟩ : ∃ bl, bl = s.lost.getD j false := ⟨_, rfl⟩
      rw [← hbl] at kj
      have HBL := Lib.hid hbl
      clear hbl
      by_cases h0 : k = 0
      · rcases bl with _ | _
        · have H0 := Lib.hid h0
          subst h0
          go_upto_region 12 with (fail)
          clear kj
          obtain ⟨r7, hr7⟩ : ∃ r7 : Rp, r7 = ⟨r.kind, r.code, A5, r.n, c5, r.bs⟩ := ⟨_, rfl⟩
          have HPK := Lib.hid (show r7.pk = (if s.lost.getD j false = true ∧ (0 : Nat) = 0 then { r.pk with code := r.pk.code + 64 } else r.pk) by rw [hr7, if_neg (fun h => by rw [← HBL.out] at h; cases h.1)]; rfl)
          have HA7 := Lib.hid (show r7.A = A5 by rw [hr7])
          obtain ⟨w7, hw7⟩ : ∃ V, V = w6 := ⟨_, rfl⟩
          have K7 : w7.heap[wo.heap.size]? = some (.cells r7.vals.toArray 38 (0, 0)) := by rw [hw7, hr7]; exact HK6.out
          have X7 : Ext wo w7 := by rw [hw7]; exact X6
          have hk7 : 0 ≤ r7.kind ∧ r7.kind < 256 := by rw [hr7]; exact HR.out.1.kind
          have hc7 : 0 ≤ r7.code ∧ r7.code < 256 := by rw [hr7]; exact HR.out.1.code
          have rd7 : Rd w7 r7.A r7.n r7.bs := by rw [hw7, hr7]; exact HF6.out.1
          have hle7 : r7.n ≤ r7.c := by rw [hr7]; exact hc5
          have hcm7 : r7.c ≤ maxLen := by rw [hr7]; exact hm5
          have far7 : ∀ ad, r7.A = some ad → Tk ad.block = none ∧ ad.block < w7.heap.size := by rw [hw7, hr7]; exact HF6.out.2
          rw [← hw7]
          clear hw7 hr7
          have HNW := Lib.hid (show ∀ ad, r7.A = some ad → w.heap.size ≤ ad.block from fun ad e => Nat.le_trans HK.out.1.size (HNB.out ad (by rw [← HA7.out]; exact e)))
          have HR7 := Lib.hid (show r7.ok w7 ∧ (∀ ad, r7.A = some ad → Tk ad.block = none ∧ ad.block < w7.heap.size) from ⟨⟨hk7, hc7, (rd7 : Rd w7 r7.A r7.n r7.bs), hle7, hcm7⟩, far7⟩)
          have H7 := Lib.hid (HQ.out.ext X7)
          have HK7 := Lib.hid K7
          clear hk7 hc7 rd7 hle7 hcm7 far7 K7
          obtain ⟨A2, c2, e2, h31, h32, q0, k1, ql, qf⟩ := H7.out.cells
          have HE := Lib.hid e2
          have ow := H7.out.row
          rw [e2] at ow
          have hrl := H7.out.len
          have HN1 := Lib.hid (show (s.part (s.lost.getD j false) (xs.map Rp.pk) 0).l.length + 1 ≤ s.most by simp only [QS.part, List.length_append, List.length_take, mark_len, List.length_map]; have := HFU.out; rw [List.length_map] at this; have := HP.out.2.1; omega)
          have hrk : rk.length ≤ 64 := by have := H7.out.ok.n; have := H7.out.ok.m2; omega
          have HTG := Lib.hid (show Tk g ≠ none by rw [H7.out.tg]; simp)
          clear e2 q0 ql qf hrl h31 h32
          refine wp_regionL (Kept (fun b => Tk b ≠ none) w7) (Ext w7) 7 (by kernel_rfl) (Kept.of_ext (Ext.refl _).drew) ((Ext.refl _).drew) (fun hL => ?_)
          have hP := hL.1
          have hE : Ext w7 (World.drew w7) := (Ext.refl _).drew
          obtain ⟨wD1, hwD⟩ : ∃ V, V = World.drew w7 := ⟨_, rfl⟩
          rw [← hwD] at hL hP hE ⊢
          clear hwD
          refine wpAnyL_takeP (i := 0) (oi := { dst := some 67, op := Op.move (Operand.tmp 0), type := 24, pos := "queue.go:39", after := #[], guard := none }) (v := ?vv2_12_0) rfl (by kernel_rfl) (by kernel_rfl) (by kernel_rfl) (by kernel_rfl) (fun _ _ _ h => h) (Or.inl ⟨by rfl, ?yy2_12_0⟩) hL (fun hL => ?_)
          case yy2_12_0 => (intro W hx; go_simp; try with_reducible rfl)
          simp only [Act.put, List.setIfInBounds_toArray, List.set_cons_zero, List.set_cons_succ]
          refine wpAnyL_takeP (i := 1) (oi := { dst := some 68, op := Op.move (Operand.tmp 0), type := 24, pos := "queue.go:39", after := #[], guard := none }) (v := ?vv3_12_1) rfl (by kernel_rfl) (by kernel_rfl) (by kernel_rfl) (by kernel_rfl) (fun _ _ _ h => h) (Or.inl ⟨by rfl, ?yy3_12_1⟩) hL (fun hL => ?_)
          case yy3_12_1 => (intro W hx; go_simp; try with_reducible rfl)
          simp only [Act.put, List.setIfInBounds_toArray, List.set_cons_zero, List.set_cons_succ]
          refine wpAnyL_takeP (i := 2) (oi := { dst := some 69, op := Op.nilCheck (Operand.tmp 68), type := 0, pos := "queue.go:39", after := #[{ on := 1, ground := Ground.data }], guard := none }) (v := ?vv4_12_2) rfl (by kernel_rfl) (by kernel_rfl) (by kernel_rfl) (by kernel_rfl) (fun _ _ _ h => h) (Or.inl ⟨by rfl, ?yy4_12_2⟩) hL (fun hL => ?_)
          case yy4_12_2 => (intro W hx; go_simp; try with_reducible rfl)
          simp only [Act.put, List.setIfInBounds_toArray, List.set_cons_zero, List.set_cons_succ]
          refine wpAnyL_takeP (i := 3) (oi := { dst := some 70, op := Op.fieldAddr 54 (Operand.tmp 69) 1, type := 0, pos := "queue.go:39", after := #[{ on := 2, ground := Ground.data }], guard := none }) (v := ?vv5_12_3) rfl (by kernel_rfl) (by kernel_rfl) (by kernel_rfl) (by kernel_rfl) (fun _ _ _ h => h) (Or.inl ⟨by rfl, ?yy5_12_3⟩) hL (fun hL => ?_)
          case yy5_12_3 => (intro W hx; go_simp; try with_reducible rfl)
          simp only [Act.put, List.setIfInBounds_toArray, List.set_cons_zero, List.set_cons_succ]
          refine wpAnyL_takeB (i := 4) [7] (oi := { dst := some 71, op := Op.load 32 (Operand.tmp 70), type := 32, pos := "queue.go:39", after := #[{ on := 3, ground := Ground.data }], guard := none }) (v := ?vv6_12_4) rfl (by kernel_rfl) (by kernel_rfl) (by kernel_rfl) (by kernel_rfl) (fun _ _ _ h => h) (by kernel_rfl) (Or.inl ⟨by rfl, ?yy6_12_4⟩) hL (fun hL => ?_)
          case yy6_12_4 => (intro W hx; have q1 := cell_ext hx.2 k1; go_simp; try with_reducible rfl)
          simp only [Act.put, List.setIfInBounds_toArray, List.set_cons_zero, List.set_cons_succ]
          refine wpAnyL_takeB (i := 5) [6, 7] (oi := { dst := some 72, op := Op.load 38 (Operand.tmp 8), type := 38, pos := "queue.go:39", after := #[], guard := none }) (v := ?vv7_12_5) rfl (by kernel_rfl) (by kernel_rfl) (by kernel_rfl) (by kernel_rfl) (fun _ _ _ h => h) (by kernel_rfl) (Or.inl ⟨by rfl, ?yy7_12_5⟩) hL (fun hL => ?_)
          case yy7_12_5 => (intro W hx; refine ld_op (r := r7) (rpAt ((hx.2.block _ (blk_lt HK7.out)).trans HK7.out)) ?_; rfl)
          simp only [Act.put, List.setIfInBounds_toArray, List.set_cons_zero, List.set_cons_succ]
          refine wpAnyL_ready (rs := [6]) (by kernel_rfl) (by simp) (AllReadyL.cons rfl (fun K hK => ?_) AllReadyL.nil)
          rw [if_pos (by rfl)]
          refine wp_bsR (o := { dst := some 73, op := Op.buildSlice 32 1 #[(0, Operand.tmp 72)], type := 32, pos := "queue.go:39", after := #[{ on := 5, ground := Ground.data }], guard := none }) (r := r7) _ rfl rfl ?_; intro w8 hw; have xb : Ext wD1 w8 := (by rw [hw]; exact (Ext.refl _).alloc _); have sh := shows_one (w := wD1) (r := r7) 38; rw [← hw] at sh; clear hw; have ow2 := own_ext (own_ext ow hE) xb; have xE8 : Ext w7 w8 := Ext.trans hE xb
          simp only [Act.put, List.setIfInBounds_toArray, List.set_cons_zero, List.set_cons_succ]
          replace hE := hE.trans xb
          replace hP := hP.then xb
          clear hL
          refine hK.out _ _ ⟨hP, fun e => hE⟩ (fun hL => ?_)
          clear hK K
          refine wpAnyL_ready (rs := [7]) (by kernel_rfl) (by simp) (AllReadyL.cons rfl (fun K hK => ?_) AllReadyL.nil)
          rw [if_pos (by rfl)]
          refine wp_appB (o := { dst := some 74, op := Op.call { callee := Callee.builtin Builtin.append, args := #[Operand.tmp 71, Operand.tmp 73], argTypes := #[32, 32] }, type := 32, pos := "queue.go:39", after := #[{ on := 4, ground := Ground.data }, { on := 6, ground := Ground.data }], guard := none }) el32 _ _ rfl ow2 rfl sh rfl (rps_one _) (le_max (by omega)) (by omega) (Nat.zero_le _) ?_; intro v9 w9 ow9 x9 at9; obtain ⟨B9, c9, rfl, _, _⟩ := ow9.form (by omega); obtain ⟨⟨hfz9, u9, hcell9⟩, va9, T9, Q9, k9, b9⟩ := qu_app H7.out xE8 HR7.out.1 HR7.out.2 ow9 (by rw [HE.out]; exact x9) rfl (by rw [HE.out]; exact at9) HN1.out
          simp only [Act.put, List.setIfInBounds_toArray, List.set_cons_zero, List.set_cons_succ]
          replace hP := hP.trans' (Kept.of_grown x9 (fun b e => by rw [H7.out.O.tag (1, 0, 0) ⟨38, 3, rk.length, rps rk⟩ rfl b (by rw [HE.out]; exact e)]; simp))
          clear hE
          clear hL
          refine hK.out _ _ ⟨hP, fun e => absurd e (by simp)⟩ (fun hL => ?_)
          clear hK K
          refine wpAnyL_takeP (i := 8) (oi := { dst := some 75, op := Op.nilCheck (Operand.tmp 67), type := 0, pos := "queue.go:39", after := #[{ on := 0, ground := Ground.data }, { on := 0, ground := Ground.phase }, { on := 1, ground := Ground.phase }, { on := 2, ground := Ground.phase }, { on := 3, ground := Ground.phase }, { on := 4, ground := Ground.phase }, { on := 5, ground := Ground.phase }, { on := 6, ground := Ground.phase }, { on := 7, ground := Ground.phase }], guard := none }) (v := ?vv8_12_8) rfl (by kernel_rfl) (by kernel_rfl) (by kernel_rfl) (by kernel_rfl) (fun _ _ _ h => h) (Or.inl ⟨by rfl, ?yy8_12_8⟩) hL (fun hL => ?_)
          case yy8_12_8 => (intro W hx; go_simp; try with_reducible rfl)
          simp only [Act.put, List.setIfInBounds_toArray, List.set_cons_zero, List.set_cons_succ]
          refine wpAnyL_takeP (i := 9) (oi := { dst := some 76, op := Op.fieldAddr 54 (Operand.tmp 75) 1, type := 0, pos := "queue.go:39", after := #[{ on := 8, ground := Ground.data }, { on := 0, ground := Ground.phase }, { on := 1, ground := Ground.phase }, { on := 2, ground := Ground.phase }, { on := 3, ground := Ground.phase }, { on := 4, ground := Ground.phase }, { on := 5, ground := Ground.phase }, { on := 6, ground := Ground.phase }, { on := 7, ground := Ground.phase }], guard := none }) (v := ?vv9_12_9) rfl (by kernel_rfl) (by kernel_rfl) (by kernel_rfl) (by kernel_rfl) (fun _ _ _ h => h) (Or.inl ⟨by rfl, ?yy9_12_9⟩) hL (fun hL => ?_)
          case yy9_12_9 => (intro W hx; go_simp; try with_reducible rfl)
          simp only [Act.put, List.setIfInBounds_toArray, List.set_cons_zero, List.set_cons_succ]
          refine wpAnyL_ready (rs := [10]) (by kernel_rfl) (by simp) (AllReadyL.cons rfl (fun K hK => ?_) AllReadyL.nil)
          rw [if_pos (by rfl)]
          refine wp_stset (o := { dst := none, op := Op.store 32 (Operand.tmp 76) (Operand.tmp 74), type := 0, pos := "queue.go:39", after := #[{ on := 9, ground := Ground.data }, { on := 7, ground := Ground.data }, { on := 7, ground := Ground.chain }, { on := 0, ground := Ground.phase }, { on := 1, ground := Ground.phase }, { on := 2, ground := Ground.phase }, { on := 3, ground := Ground.phase }, { on := 4, ground := Ground.phase }, { on := 5, ground := Ground.phase }, { on := 6, ground := Ground.phase }, { on := 7, ground := Ground.phase }], guard := none }) (v := .slice (some ⟨B9, 0, none⟩) (rk.length + 1) c9) 32 _ _ rfl hcell9 hfz9 rfl rfl size32 rfl (fun c e => by cases e) ?_; obtain ⟨w10, hw10, x10⟩ : ∃ V, V = World.setCell w9 ⟨g, 1, none⟩ (.slice (some ⟨B9, 0, none⟩) (rk.length + 1) c9) ∧ w9.grownBy V (some g) := ⟨_, rfl, set_grown _ _ _ _⟩; rw [← hw10]
          simp only [Act.put]
          replace hP := hP.trans' (Kept.of_grown x10 (fun b e => by injection e with e; subst e; exact HTG.out))
          clear hL
          refine hK.out _ _ ⟨hP, fun e => absurd e (by simp)⟩ (fun hL => ?_)
          clear hK K
          refine wpAnyL_done (by kernel_rfl) ?_ _
          rw [← hw10] at Q9 k9
          rw [HPK.out, part_succ HR.out.2.2.2] at Q9
          have HQ9 := Lib.hid Q9
          have HFR9 := Lib.hid (show FromR w rs (rk ++ [r7]) from fun y hy ad e => by
            rcases List.mem_append.1 hy with hy | hy
            · exact HFR.out y hy ad e
            · simp at hy; subst hy; exact .inr (HNW.out ad e))
          have HKB := Lib.hid (tags_trans HK.out.1 HK.out.2 ((Kept.of_ext X7).trans' k9) (fun b t hb => (b9 b t hb).imp id (fun h => Nat.le_trans X7.size h)))
          clear Q9 k9 b9 hw10 ow9 at9 hcell9 hfz9
          go_wp2
          go_roundw
          case rel => exact ⟨0 + 1, _, _, _, by go_num, by omega, HQ9.out, HKB.out.1, HKB.out.2, HFR9.out⟩
          case measure => simp [intOf]; omega
        · have H0 := Lib.hid h0
          subst h0
          have m1 : w6.cell? ⟨wo.heap.size, 1, none⟩ = some (.int .u8 r.code) := blk_cell HK6.out rfl
          have ff1 : w6.frozen? ⟨wo.heap.size, 1, none⟩ = false := blk_free HK6.out
          obtain ⟨cn, hcn⟩ : ∃ cn : Nat, r.code + 64 = cn := ⟨(r.code + 64).toNat, by have := HR.out.1.code; omega⟩
          have ucn := wr8 (i := cn) (by have := HR.out.2.2.1; omega)
          have HCN := Lib.hid hcn
          go_upto_region 12 with (fail)
          rw [← HCN.out]
          clear kj m1 ff1 ucn hcn
          obtain ⟨r7, hr7⟩ : ∃ r7 : Rp, r7 = ⟨r.kind, r.code + 64, A5, r.n, c5, r.bs⟩ := ⟨_, rfl⟩
          have HPK := Lib.hid (show r7.pk = (if s.lost.getD j false = true ∧ (0 : Nat) = 0 then { r.pk with code := r.pk.code + 64 } else r.pk) by rw [hr7, if_pos ⟨HBL.out.symm, rfl⟩]; rfl)
          have HA7 := Lib.hid (show r7.A = A5 by rw [hr7])
          obtain ⟨w7, hw7⟩ : ∃ V, V = w6.setCell ⟨wo.heap.size, 1, none⟩ (.int .u8 (r.code + 64)) := ⟨_, rfl⟩
          have K7 : w7.heap[wo.heap.size]? = some (.cells r7.vals.toArray 38 (0, 0)) := by rw [hw7, hr7]; exact blk_set HK6.out
          have X7 : Ext wo w7 := by rw [hw7]; exact X6.setCell (Nat.le_refl _) _
          have k67 : Kept (fun b => b = wo.heap.size) w6 w7 := by rw [hw7]; exact Kept.of_set _ rfl
          have hne6 : ∀ ad, A5 = some ad → ¬ ad.block = wo.heap.size := fun ad e e2 => HNE5.out ad e e2
          have hk7 : 0 ≤ r7.kind ∧ r7.kind < 256 := by rw [hr7]; exact HR.out.1.kind
          have hc7 : 0 ≤ r7.code ∧ r7.code < 256 := by rw [hr7]; have h1 := HR.out.1.code; have h2 := HR.out.2.2.1; exact ⟨Int.add_nonneg h1.1 (by decide), by show r.code + 64 < 256; omega⟩
          have rd7 : Rd w7 r7.A r7.n r7.bs := by rw [hr7]; exact HF6.out.1.kept k67 hne6
          have hle7 : r7.n ≤ r7.c := by rw [hr7]; exact hc5
          have hcm7 : r7.c ≤ maxLen := by rw [hr7]; exact hm5
          have far7 : ∀ ad, r7.A = some ad → Tk ad.block = none ∧ ad.block < w7.heap.size := by rw [hr7]; exact fun ad e => ⟨(HF6.out.2 ad e).1, Nat.lt_of_lt_of_le (HF6.out.2 ad e).2 k67.size⟩
          rw [← hw7]
          clear hw7 hr7 k67 hne6
          have HNW := Lib.hid (show ∀ ad, r7.A = some ad → w.heap.size ≤ ad.block from fun ad e => Nat.le_trans HK.out.1.size (HNB.out ad (by rw [← HA7.out]; exact e)))
          have HR7 := Lib.hid (show r7.ok w7 ∧ (∀ ad, r7.A = some ad → Tk ad.block = none ∧ ad.block < w7.heap.size) from ⟨⟨hk7, hc7, (rd7 : Rd w7 r7.A r7.n r7.bs), hle7, hcm7⟩, far7⟩)
          have H7 := Lib.hid (HQ.out.ext X7)
          have HK7 := Lib.hid K7
          clear hk7 hc7 rd7 hle7 hcm7 far7 K7
          obtain ⟨A2, c2, e2, h31, h32, q0, k1, ql, qf⟩ := H7.out.cells
          have HE := Lib.hid e2
          have ow := H7.out.row
          rw [e2] at ow
          have hrl := H7.out.len
          have HN1 := Lib.hid (show (s.part (s.lost.getD j false) (xs.map Rp.pk) 0).l.length + 1 ≤ s.most by simp only [QS.part, List.length_append, List.length_take, mark_len, List.length_map]; have := HFU.out; rw [List.length_map] at this; have := HP.out.2.1; omega)
          have hrk : rk.length ≤ 64 := by have := H7.out.ok.n; have := H7.out.ok.m2; omega
          have HTG := Lib.hid (show Tk g ≠ none by rw [H7.out.tg]; simp)
          clear e2 q0 ql qf hrl h31 h32
          refine wp_regionL (Kept (fun b => Tk b ≠ none) w7) (Ext w7) 7 (by kernel_rfl) (Kept.of_ext (Ext.refl _).drew) ((Ext.refl _).drew) (fun hL => ?_)
          have hP := hL.1
          have hE : Ext w7 (World.drew w7) := (Ext.refl _).drew
          obtain ⟨wD10, hwD⟩ : ∃ V, V = World.drew w7 := ⟨_, rfl⟩
          rw [← hwD] at hL hP hE ⊢
          clear hwD
          refine wpAnyL_takeP (i := 0) (oi := { dst := some 67, op := Op.move (Operand.tmp 0), type := 24, pos := "queue.go:39", after := #[], guard := none }) (v := ?vv11_12_0) rfl (by kernel_rfl) (by kernel_rfl) (by kernel_rfl) (by kernel_rfl) (fun _ _ _ h => h) (Or.inl ⟨by rfl, ?yy11_12_0⟩) hL (fun hL => ?_)
          case yy11_12_0 => (intro W hx; go_simp; try with_reducible rfl)
          simp only [Act.put, List.setIfInBounds_toArray, List.set_cons_zero, List.set_cons_succ]
          refine wpAnyL_takeP (i := 1) (oi := { dst := some 68, op := Op.move (Operand.tmp 0), type := 24, pos := "queue.go:39", after := #[], guard := none }) (v := ?vv12_12_1) rfl (by kernel_rfl) (by kernel_rfl) (by kernel_rfl) (by kernel_rfl) (fun _ _ _ h => h) (Or.inl ⟨by rfl, ?yy12_12_1⟩) hL (fun hL => ?_)
          case yy12_12_1 => (intro W hx; go_simp; try with_reducible rfl)
          simp only [Act.put, List.setIfInBounds_toArray, List.set_cons_zero, List.set_cons_succ]
          refine wpAnyL_takeP (i := 2) (oi := { dst := some 69, op := Op.nilCheck (Operand.tmp 68), type := 0, pos := "queue.go:39", after := #[{ on := 1, ground := Ground.data }], guard := none }) (v := ?vv13_12_2) rfl (by kernel_rfl) (by kernel_rfl) (by kernel_rfl) (by kernel_rfl) (fun _ _ _ h => h) (Or.inl ⟨by rfl, ?yy13_12_2⟩) hL (fun hL => ?_)
          case yy13_12_2 => (intro W hx; go_simp; try with_reducible rfl)
          simp only [Act.put, List.setIfInBounds_toArray, List.set_cons_zero, List.set_cons_succ]
          refine wpAnyL_takeP (i := 3) (oi := { dst := some 70, op := Op.fieldAddr 54 (Operand.tmp 69) 1, type := 0, pos := "queue.go:39", after := #[{ on := 2, ground := Ground.data }], guard := none }) (v := ?vv14_12_3) rfl (by kernel_rfl) (by kernel_rfl) (by kernel_rfl) (by kernel_rfl) (fun _ _ _ h => h) (Or.inl ⟨by rfl, ?yy14_12_3⟩) hL (fun hL => ?_)
          case yy14_12_3 => (intro W hx; go_simp; try with_reducible rfl)
          simp only [Act.put, List.setIfInBounds_toArray, List.set_cons_zero, List.set_cons_succ]
          refine wpAnyL_takeB (i := 4) [7] (oi := { dst := some 71, op := Op.load 32 (Operand.tmp 70), type := 32, pos := "queue.go:39", after := #[{ on := 3, ground := Ground.data }], guard := none }) (v := ?vv15_12_4) rfl (by kernel_rfl) (by kernel_rfl) (by kernel_rfl) (by kernel_rfl) (fun _ _ _ h => h) (by kernel_rfl) (Or.inl ⟨by rfl, ?yy15_12_4⟩) hL (fun hL => ?_)
          case yy15_12_4 => (intro W hx; have q1 := cell_ext hx.2 k1; go_simp; try with_reducible rfl)
          simp only [Act.put, List.setIfInBounds_toArray, List.set_cons_zero, List.set_cons_succ]
          refine wpAnyL_takeB (i := 5) [6, 7] (oi := { dst := some 72, op := Op.load 38 (Operand.tmp 8), type := 38, pos := "queue.go:39", after := #[], guard := none }) (v := ?vv16_12_5) rfl (by kernel_rfl) (by kernel_rfl) (by kernel_rfl) (by kernel_rfl) (fun _ _ _ h => h) (by kernel_rfl) (Or.inl ⟨by rfl, ?yy16_12_5⟩) hL (fun hL => ?_)
          case yy16_12_5 => (intro W hx; refine ld_op (r := r7) (rpAt ((hx.2.block _ (blk_lt HK7.out)).trans HK7.out)) ?_; rfl)
          simp only [Act.put, List.setIfInBounds_toArray, List.set_cons_zero, List.set_cons_succ]
          refine wpAnyL_ready (rs := [6]) (by kernel_rfl) (by simp) (AllReadyL.cons rfl (fun K hK => ?_) AllReadyL.nil)
          rw [if_pos (by rfl)]
          refine wp_bsR (o := { dst := some 73, op := Op.buildSlice 32 1 #[(0, Operand.tmp 72)], type := 32, pos := "queue.go:39", after := #[{ on := 5, ground := Ground.data }], guard := none }) (r := r7) _ rfl rfl ?_; intro w8 hw; have xb : Ext wD10 w8 := (by rw [hw]; exact (Ext.refl _).alloc _); have sh := shows_one (w := wD10) (r := r7) 38; rw [← hw] at sh; clear hw; have ow2 := own_ext (own_ext ow hE) xb; have xE8 : Ext w7 w8 := Ext.trans hE xb
          simp only [Act.put, List.setIfInBounds_toArray, List.set_cons_zero, List.set_cons_succ]
          replace hE := hE.trans xb
          replace hP := hP.then xb
          clear hL
          refine hK.out _ _ ⟨hP, fun e => hE⟩ (fun hL => ?_)
          clear hK K
          refine wpAnyL_ready (rs := [7]) (by kernel_rfl) (by simp) (AllReadyL.cons rfl (fun K hK => ?_) AllReadyL.nil)
          rw [if_pos (by rfl)]
          refine wp_appB (o := { dst := some 74, op := Op.call { callee := Callee.builtin Builtin.append, args := #[Operand.tmp 71, Operand.tmp 73], argTypes := #[32, 32] }, type := 32, pos := "queue.go:39", after := #[{ on := 4, ground := Ground.data }, { on := 6, ground := Ground.data }], guard := none }) el32 _ _ rfl ow2 rfl sh rfl (rps_one _) (le_max (by omega)) (by omega) (Nat.zero_le _) ?_; intro v9 w9 ow9 x9 at9; obtain ⟨B9, c9, rfl, _, _⟩ := ow9.form (by omega); obtain ⟨⟨hfz9, u9, hcell9⟩, va9, T9, Q9, k9, b9⟩ := qu_app H7.out xE8 HR7.out.1 HR7.out.2 ow9 (by rw [HE.out]; exact x9) rfl (by rw [HE.out]; exact at9) HN1.out
          simp only [Act.put, List.setIfInBounds_toArray, List.set_cons_zero, List.set_cons_succ]
          replace hP := hP.trans' (Kept.of_grown x9 (fun b e => by rw [H7.out.O.tag (1, 0, 0) ⟨38, 3, rk.length, rps rk⟩ rfl b (by rw [HE.out]; exact e)]; simp))
          clear hE
          clear hL
          refine hK.out _ _ ⟨hP, fun e => absurd e (by simp)⟩ (fun hL => ?_)
          clear hK K
          refine wpAnyL_takeP (i := 8) (oi := { dst := some 75, op := Op.nilCheck (Operand.tmp 67), type := 0, pos := "queue.go:39", after := #[{ on := 0, ground := Ground.data }, { on := 0, ground := Ground.phase }, { on := 1, ground := Ground.phase }, { on := 2, ground := Ground.phase }, { on := 3, ground := Ground.phase }, { on := 4, ground := Ground.phase }, { on := 5, ground := Ground.phase }, { on := 6, ground := Ground.phase }, { on := 7, ground := Ground.phase }], guard := none }) (v := ?vv17_12_8) rfl (by kernel_rfl) (by kernel_rfl) (by kernel_rfl) (by kernel_rfl) (fun _ _ _ h => h) (Or.inl ⟨by rfl, ?yy17_12_8⟩) hL (fun hL => ?_)
          case yy17_12_8 => (intro W hx; go_simp; try with_reducible rfl)
          simp only [Act.put, List.setIfInBounds_toArray, List.set_cons_zero, List.set_cons_succ]
          refine wpAnyL_takeP (i := 9) (oi := { dst := some 76, op := Op.fieldAddr 54 (Operand.tmp 75) 1, type := 0, pos := "queue.go:39", after := #[{ on := 8, ground := Ground.data }, { on := 0, ground := Ground.phase }, { on := 1, ground := Ground.phase }, { on := 2, ground := Ground.phase }, { on := 3, ground := Ground.phase }, { on := 4, ground := Ground.phase }, { on := 5, ground := Ground.phase }, { on := 6, ground := Ground.phase }, { on := 7, ground := Ground.phase }], guard := none }) (v := ?vv18_12_9) rfl (by kernel_rfl) (by kernel_rfl) (by kernel_rfl) (by kernel_rfl) (fun _ _ _ h => h) (Or.inl ⟨by rfl, ?yy18_12_9⟩) hL (fun hL => ?_)
          case yy18_12_9 => (intro W hx; go_simp; try with_reducible rfl)
          simp only [Act.put, List.setIfInBounds_toArray, List.set_cons_zero, List.set_cons_succ]
          refine wpAnyL_ready (rs := [10]) (by kernel_rfl) (by simp) (AllReadyL.cons rfl (fun K hK => ?_) AllReadyL.nil)
          rw [if_pos (by rfl)]
          refine wp_stset (o := { dst := none, op := Op.store 32 (Operand.tmp 76) (Operand.tmp 74), type := 0, pos := "queue.go:39", after := #[{ on := 9, ground := Ground.data }, { on := 7, ground := Ground.data }, { on := 7, ground := Ground.chain }, { on := 0, ground := Ground.phase }, { on := 1, ground := Ground.phase }, { on := 2, ground := Ground.phase }, { on := 3, ground := Ground.phase }, { on := 4, ground := Ground.phase }, { on := 5, ground := Ground.phase }, { on := 6, ground := Ground.phase }, { on := 7, ground := Ground.phase }], guard := none }) (v := .slice (some ⟨B9, 0, none⟩) (rk.length + 1) c9) 32 _ _ rfl hcell9 hfz9 rfl rfl size32 rfl (fun c e => by cases e) ?_; obtain ⟨w10, hw10, x10⟩ : ∃ V, V = World.setCell w9 ⟨g, 1, none⟩ (.slice (some ⟨B9, 0, none⟩) (rk.length + 1) c9) ∧ w9.grownBy V (some g) := ⟨_, rfl, set_grown _ _ _ _⟩; rw [← hw10]
          simp only [Act.put]
          replace hP := hP.trans' (Kept.of_grown x10 (fun b e => by injection e with e; subst e; exact HTG.out))
          clear hL
          refine hK.out _ _ ⟨hP, fun e => absurd e (by simp)⟩ (fun hL => ?_)
          clear hK K
          refine wpAnyL_done (by kernel_rfl) ?_ _
          rw [← hw10] at Q9 k9
          rw [HPK.out, part_succ HR.out.2.2.2] at Q9
          have HQ9 := Lib.hid Q9
          have HFR9 := Lib.hid (show FromR w rs (rk ++ [r7]) from fun y hy ad e => by
            rcases List.mem_append.1 hy with hy | hy
            · exact HFR.out y hy ad e
            · simp at hy; subst hy; exact .inr (HNW.out ad e))
          have HKB := Lib.hid (tags_trans HK.out.1 HK.out.2 ((Kept.of_ext X7).trans' k9) (fun b t hb => (b9 b t hb).imp id (fun h => Nat.le_trans X7.size h)))
          clear Q9 k9 b9 hw10 ow9 at9 hcell9 hfz9
          go_wp2
          go_roundw
          case rel => exact ⟨0 + 1, _, _, _, by go_num, by omega, HQ9.out, HKB.out.1, HKB.out.2, HFR9.out⟩
          case measure => simp [intOf]; omega
      · have hkz : ((k : Int) == 0) = false := by simp; omega
        have hkz2 : ¬ ((k : Int) = 0) := by omega
        go_upto_region 12 with (fail)
        clear kj hkz hkz2
        obtain ⟨r7, hr7⟩ : ∃ r7 : Rp, r7 = ⟨r.kind, r.code, A5, r.n, c5, r.bs⟩ := ⟨_, rfl⟩
        have HPK := Lib.hid (show r7.pk = (if s.lost.getD j false = true ∧ k = 0 then { r.pk with code := r.pk.code + 64 } else r.pk) by rw [hr7, if_neg (fun h => h0 h.2)]; rfl)
        have HA7 := Lib.hid (show r7.A = A5 by rw [hr7])
        obtain ⟨w7, hw7⟩ : ∃ V, V = w6 := ⟨_, rfl⟩
        have K7 : w7.heap[wo.heap.size]? = some (.cells r7.vals.toArray 38 (0, 0)) := by rw [hw7, hr7]; exact HK6.out
        have X7 : Ext wo w7 := by rw [hw7]; exact X6
        have hk7 : 0 ≤ r7.kind ∧ r7.kind < 256 := by rw [hr7]; exact HR.out.1.kind
        have hc7 : 0 ≤ r7.code ∧ r7.code < 256 := by rw [hr7]; exact HR.out.1.code
        have rd7 : Rd w7 r7.A r7.n r7.bs := by rw [hw7, hr7]; exact HF6.out.1
        have hle7 : r7.n ≤ r7.c := by rw [hr7]; exact hc5
        have hcm7 : r7.c ≤ maxLen := by rw [hr7]; exact hm5
        have far7 : ∀ ad, r7.A = some ad → Tk ad.block = none ∧ ad.block < w7.heap.size := by rw [hw7, hr7]; exact HF6.out.2
        rw [← hw7]
        clear hw7 hr7
        have HNW := Lib.hid (show ∀ ad, r7.A = some ad → w.heap.size ≤ ad.block from fun ad e => Nat.le_trans HK.out.1.size (HNB.out ad (by rw [← HA7.out]; exact e)))
        have HR7 := Lib.hid (show r7.ok w7 ∧ (∀ ad, r7.A = some ad → Tk ad.block = none ∧ ad.block < w7.heap.size) from ⟨⟨hk7, hc7, (rd7 : Rd w7 r7.A r7.n r7.bs), hle7, hcm7⟩, far7⟩)
        have H7 := Lib.hid (HQ.out.ext X7)
        have HK7 := Lib.hid K7
        clear hk7 hc7 rd7 hle7 hcm7 far7 K7
        obtain ⟨A2, c2, e2, h31, h32, q0, k1, ql, qf⟩ := H7.out.cells
        have HE := Lib.hid e2
        have ow := H7.out.row
        rw [e2] at ow
        have hrl := H7.out.len
        have HN1 := Lib.hid (show (s.part (s.lost.getD j false) (xs.map Rp.pk) k).l.length + 1 ≤ s.most by simp only [QS.part, List.length_append, List.length_take, mark_len, List.length_map]; have := HFU.out; rw [List.length_map] at this; have := HP.out.2.1; omega)
        have hrk : rk.length ≤ 64 := by have := H7.out.ok.n; have := H7.out.ok.m2; omega
        have HTG := Lib.hid (show Tk g ≠ none by rw [H7.out.tg]; simp)
        clear e2 q0 ql qf hrl h31 h32
        refine wp_regionL (Kept (fun b => Tk b ≠ none) w7) (Ext w7) 7 (by kernel_rfl) (Kept.of_ext (Ext.refl _).drew) ((Ext.refl _).drew) (fun hL => ?_)
        have hP := hL.1
        have hE : Ext w7 (World.drew w7) := (Ext.refl _).drew
        obtain ⟨wD19, hwD⟩ : ∃ V, V = World.drew w7 := ⟨_, rfl⟩
        rw [← hwD] at hL hP hE ⊢
        clear hwD
        refine wpAnyL_takeP (i := 0) (oi := { dst := some 67, op := Op.move (Operand.tmp 0), type := 24, pos := "queue.go:39", after := #[], guard := none }) (v := ?vv20_12_0) rfl (by kernel_rfl) (by kernel_rfl) (by kernel_rfl) (by kernel_rfl) (fun _ _ _ h => h) (Or.inl ⟨by rfl, ?yy20_12_0⟩) hL (fun hL => ?_)
        case yy20_12_0 => (intro W hx; go_simp; try with_reducible rfl)
        simp only [Act.put, List.setIfInBounds_toArray, List.set_cons_zero, List.set_cons_succ]
        refine wpAnyL_takeP (i := 1) (oi := { dst := some 68, op := Op.move (Operand.tmp 0), type := 24, pos := "queue.go:39", after := #[], guard := none }) (v := ?vv21_12_1) rfl (by kernel_rfl) (by kernel_rfl) (by kernel_rfl) (by kernel_rfl) (fun _ _ _ h => h) (Or.inl ⟨by rfl, ?yy21_12_1⟩) hL (fun hL => ?_)
        case yy21_12_1 => (intro W hx; go_simp; try with_reducible rfl)
        simp only [Act.put, List.setIfInBounds_toArray, List.set_cons_zero, List.set_cons_succ]
        refine wpAnyL_takeP (i := 2) (oi := { dst := some 69, op := Op.nilCheck (Operand.tmp 68), type := 0, pos := "queue.go:39", after := #[{ on := 1, ground := Ground.data }], guard := none }) (v := ?vv22_12_2) rfl (by kernel_rfl) (by kernel_rfl) (by kernel_rfl) (by kernel_rfl) (fun _ _ _ h => h) (Or.inl ⟨by rfl, ?yy22_12_2⟩) hL (fun hL => ?_)
        case yy22_12_2 => (intro W hx; go_simp; try with_reducible rfl)
        simp only [Act.put, List.setIfInBounds_toArray, List.set_cons_zero, List.set_cons_succ]
        refine wpAnyL_takeP (i := 3) (oi := { dst := some 70, op := Op.fieldAddr 54 (Operand.tmp 69) 1, type := 0, pos := "queue.go:39", after := #[{ on := 2, ground := Ground.data }], guard := none }) (v := ?vv23_12_3) rfl (by kernel_rfl) (by kernel_rfl) (by kernel_rfl) (by kernel_rfl) (fun _ _ _ h => h) (Or.inl ⟨by rfl, ?yy23_12_3⟩) hL (fun hL => ?_)
        case yy23_12_3 => (intro W hx; go_simp; try with_reducible rfl)
        simp only [Act.put, List.setIfInBounds_toArray, List.set_cons_zero, List.set_cons_succ]
        refine wpAnyL_takeB (i := 4) [7] (oi := { dst := some 71, op := Op.load 32 (Operand.tmp 70), type := 32, pos := "queue.go:39", after := #[{ on := 3, ground := Ground.data }], guard := none }) (v := ?vv24_12_4) rfl (by kernel_rfl) (by kernel_rfl) (by kernel_rfl) (by kernel_rfl) (fun _ _ _ h => h) (by kernel_rfl) (Or.inl ⟨by rfl, ?yy24_12_4⟩) hL (fun hL => ?_)
        case yy24_12_4 => (intro W hx; have q1 := cell_ext hx.2 k1; go_simp; try with_reducible rfl)
        simp only [Act.put, List.setIfInBounds_toArray, List.set_cons_zero, List.set_cons_succ]
        refine wpAnyL_takeB (i := 5) [6, 7] (oi := { dst := some 72, op := Op.load 38 (Operand.tmp 8), type := 38, pos := "queue.go:39", after := #[], guard := none }) (v := ?vv25_12_5) rfl (by kernel_rfl) (by kernel_rfl) (by kernel_rfl) (by kernel_rfl) (fun _ _ _ h => h) (by kernel_rfl) (Or.inl ⟨by rfl, ?yy25_12_5⟩) hL (fun hL => ?_)
        case yy25_12_5 => (intro W hx; refine ld_op (r := r7) (rpAt ((hx.2.block _ (blk_lt HK7.out)).trans HK7.out)) ?_; rfl)
        simp only [Act.put, List.setIfInBounds_toArray, List.set_cons_zero, List.set_cons_succ]
        refine wpAnyL_ready (rs := [6]) (by kernel_rfl) (by simp) (AllReadyL.cons rfl (fun K hK => ?_) AllReadyL.nil)
        rw [if_pos (by rfl)]
        refine wp_bsR (o := { dst := some 73, op := Op.buildSlice 32 1 #[(0, Operand.tmp 72)], type := 32, pos := "queue.go:39", after := #[{ on := 5, ground := Ground.data }], guard := none }) (r := r7) _ rfl rfl ?_; intro w8 hw; have xb : Ext wD19 w8 := (by rw [hw]; exact (Ext.refl _).alloc _); have sh := shows_one (w := wD19) (r := r7) 38; rw [← hw] at sh; clear hw; have ow2 := own_ext (own_ext ow hE) xb; have xE8 : Ext w7 w8 := Ext.trans hE xb
        simp only [Act.put, List.setIfInBounds_toArray, List.set_cons_zero, List.set_cons_succ]
        replace hE := hE.trans xb
        replace hP := hP.then xb
        clear hL
        refine hK.out _ _ ⟨hP, fun e => hE⟩ (fun hL => ?_)
        clear hK K
        refine wpAnyL_ready (rs := [7]) (by kernel_rfl) (by simp) (AllReadyL.cons rfl (fun K hK => ?_) AllReadyL.nil)
        rw [if_pos (by rfl)]
        refine wp_appB (o := { dst := some 74, op := Op.call { callee := Callee.builtin Builtin.append, args := #[Operand.tmp 71, Operand.tmp 73], argTypes := #[32, 32] }, type := 32, pos := "queue.go:39", after := #[{ on := 4, ground := Ground.data }, { on := 6, ground := Ground.data }], guard := none }) el32 _ _ rfl ow2 rfl sh rfl (rps_one _) (le_max (by omega)) (by omega) (Nat.zero_le _) ?_; intro v9 w9 ow9 x9 at9; obtain ⟨B9, c9, rfl, _, _⟩ := ow9.form (by omega); obtain ⟨⟨hfz9, u9, hcell9⟩, va9, T9, Q9, k9, b9⟩ := qu_app H7.out xE8 HR7.out.1 HR7.out.2 ow9 (by rw [HE.out]; exact x9) rfl (by rw [HE.out]; exact at9) HN1.out
        simp only [Act.put, List.setIfInBounds_toArray, List.set_cons_zero, List.set_cons_succ]
        replace hP := hP.trans' (Kept.of_grown x9 (fun b e => by rw [H7.out.O.tag (1, 0, 0) ⟨38, 3, rk.length, rps rk⟩ rfl b (by rw [HE.out]; exact e)]; simp))
        clear hE
        clear hL
        refine hK.out _ _ ⟨hP, fun e => absurd e (by simp)⟩ (fun hL => ?_)
        clear hK K
        refine wpAnyL_takeP (i := 8) (oi := { dst := some 75, op := Op.nilCheck (Operand.tmp 67), type := 0, pos := "queue.go:39", after := #[{ on := 0, ground := Ground.data }, { on := 0, ground := Ground.phase }, { on := 1, ground := Ground.phase }, { on := 2, ground := Ground.phase }, { on := 3, ground := Ground.phase }, { on := 4, ground := Ground.phase }, { on := 5, ground := Ground.phase }, { on := 6, ground := Ground.phase }, { on := 7, ground := Ground.phase }], guard := none }) (v := ?vv26_12_8) rfl (by kernel_rfl) (by kernel_rfl) (by kernel_rfl) (by kernel_rfl) (fun _ _ _ h => h) (Or.inl ⟨by rfl, ?yy26_12_8⟩) hL (fun hL => ?_)
        case yy26_12_8 => (intro W hx; go_simp; try with_reducible rfl)
        simp only [Act.put, List.setIfInBounds_toArray, List.set_cons_zero, List.set_cons_succ]
        refine wpAnyL_takeP (i := 9) (oi := { dst := some 76, op := Op.fieldAddr 54 (Operand.tmp 75) 1, type := 0, pos := "queue.go:39", after := #[{ on := 8, ground := Ground.data }, { on := 0, ground := Ground.phase }, { on := 1, ground := Ground.phase }, { on := 2, ground := Ground.phase }, { on := 3, ground := Ground.phase }, { on := 4, ground := Ground.phase }, { on := 5, ground := Ground.phase }, { on := 6, ground := Ground.phase }, { on := 7, ground := Ground.phase }], guard := none }) (v := ?vv27_12_9) rfl (by kernel_rfl) (by kernel_rfl) (by kernel_rfl) (by kernel_rfl) (fun _ _ _ h => h) (Or.inl ⟨by rfl, ?yy27_12_9⟩) hL (fun hL => ?_)
        case yy27_12_9 => (intro W hx; go_simp; try with_reducible rfl)
        simp only [Act.put, List.setIfInBounds_toArray, List.set_cons_zero, List.set_cons_succ]
        refine wpAnyL_ready (rs := [10]) (by kernel_rfl) (by simp) (AllReadyL.cons rfl (fun K hK => ?_) AllReadyL.nil)
        rw [if_pos (by rfl)]
        refine wp_stset (o := { dst := none, op := Op.store 32 (Operand.tmp 76) (Operand.tmp 74), type := 0, pos := "queue.go:39", after := #[{ on := 9, ground := Ground.data }, { on := 7, ground := Ground.data }, { on := 7, ground := Ground.chain }, { on := 0, ground := Ground.phase }, { on := 1, ground := Ground.phase }, { on := 2, ground := Ground.phase }, { on := 3, ground := Ground.phase }, { on := 4, ground := Ground.phase }, { on := 5, ground := Ground.phase }, { on := 6, ground := Ground.phase }, { on := 7, ground := Ground.phase }], guard := none }) (v := .slice (some ⟨B9, 0, none⟩) (rk.length + 1) c9) 32 _ _ rfl hcell9 hfz9 rfl rfl size32 rfl (fun c e => by cases e) ?_; obtain ⟨w10, hw10, x10⟩ : ∃ V, V = World.setCell w9 ⟨g, 1, none⟩ (.slice (some ⟨B9, 0, none⟩) (rk.length + 1) c9) ∧ w9.grownBy V (some g) := ⟨_, rfl, set_grown _ _ _ _⟩; rw [← hw10]
        simp only [Act.put]
        replace hP := hP.trans' (Kept.of_grown x10 (fun b e => by injection e with e; subst e; exact HTG.out))
        clear hL
        refine hK.out _ _ ⟨hP, fun e => absurd e (by simp)⟩ (fun hL => ?_)
        clear hK K
        refine wpAnyL_done (by kernel_rfl) ?_ _
        rw [← hw10] at Q9 k9
        rw [HPK.out, part_succ HR.out.2.2.2] at Q9
        have HQ9 := Lib.hid Q9
        have HFR9 := Lib.hid (show FromR w rs (rk ++ [r7]) from fun y hy ad e => by
          rcases List.mem_append.1 hy with hy | hy
          · exact HFR.out y hy ad e
          · simp at hy; subst hy; exact .inr (HNW.out ad e))
        have HKB := Lib.hid (tags_trans HK.out.1 HK.out.2 ((Kept.of_ext X7).trans' k9) (fun b t hb => (b9 b t hb).imp id (fun h => Nat.le_trans X7.size h)))
        clear Q9 k9 b9 hw10 ow9 at9 hcell9 hfz9
        go_wp2
        go_roundw
        case rel => exact ⟨k + 1, _, _, _, by go_num, by omega, HQ9.out, HKB.out.1, HKB.out.2, HFR9.out⟩
        case measure => simp [intOf]; omega
    · obtain rfl : k = n := by omega
      have hall : s.part (s.lost.getD j false) (xs.map Rp.pk) k = { s with l := s.l ++ mark (s.lost.getD j false) (xs.map Rp.pk) } := by
        unfold QS.part
        rw [List.take_of_length_le (by rw [mark_len, List.length_map, HP.out.2.1]; exact Nat.le_refl _)]
      rw [hall] at Q
      have HQ := Lib.hid Q
      have HK := Lib.hid (And.intro kp hTk)
      obtain ⟨A9, c9, e9, _, _, _, _, kl, kf⟩ := Q.cells
      have kj := kl j hj
      have fj := kf (2 + j) (by omega)
      have HRS := Lib.hid (qu_lost Q hj false)
      clear Q kp hTk hall e9 kl kf
      go_wp2
      go_ret
      have hres := tags_trans (T2 := Tk) HK.out.1 HK.out.2 HRS.out.2 (fun b t (hb : Tk b = some t) => .inl (by rw [hb]; simp))
      exact ⟨rfl, _, _, _, HRS.out.1, hres.1, hres.2, HFR.out⟩
end
end Go.Proofs.Ytdhdkjiphapliaa
