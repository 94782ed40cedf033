import Derived.Test.YtnfipfgbckbaeaaP
set_option linter.unusedVariables false
namespace Go.Proofs.Ytnfipfgbckbaeaa
open Go.RowKit
/-- append(s, make([]byte, 7)...). -/
theorem wpList_app0 {w : World} {ops : Array Oper} {rest : List Oper} {o : Oper} {a : Act} {Q : Exit → Act → World → Prop} (hgd : o.guard = none) (s : Operand)
    (ho : o.op = .call { callee := .builtin .append, args := #[s, .const (.int .i64 7)], argTypes := #[24, 3] })
    {A : Option Addr} {k : Nat} {ys : List Int} (hs : a.eval s = .slice A k k) (hr : Rd w A k ys) (hk : k ≤ 7)
    (h : ∀ c' w', Ext w w' → k + 7 ≤ c' → c' ≤ maxLen → Rd w' (some ⟨w.heap.size, 0, none⟩) (k + 7) (ys ++ List.replicate 7 0) → wpList Try.prog ops Q rest (a.put o.dst (.slice (some ⟨w.heap.size, 0, none⟩) (k + 7) c')) w') : wpList Try.prog ops Q (o :: rest) a w := by
  refine wpList_plain hgd fun _ hK => ?_
  obtain ⟨c', w', hrun, h1, h2, h3, h4⟩ := run_app_zeros o.type hr hk
  unfold Oper.wp execOp
  have hc : a.eval (.const (.int .i64 7)) = .int .i64 7 := rfl
  simp only [ho, resolve, invoke, builtin, Sem.run_bind, Sem.run_pure, Result.andThen_ok, List.map_toArray, List.map_cons, List.map_nil, hs, hc, hrun]
  exact hK _ _ (h c' w' h1 h2 h3 h4)
def padS (c : Int) (nl : List Int) : List Int := nl.take (sm c) ++ List.replicate (5 - sm c) 0
def wX (c Wn : Int) : Int := if gr c then Wn else 0
def bsX (c : Int) (nl ys : List Int) : List Int := (ys.take 7 ++ List.replicate 7 0).take (nbC c ((padS c nl).getD 0 0))
def OfX (c Wn : Int) (nl ys : List Int) : List Int := putL c (padS c nl) (wX c Wn) (bsX c nl ys)
theorem padS_len (c : Int) (nl : List Int) (h : nl.length = 5) : (padS c nl).length = 5 := by have := sm_le c; simp [padS]; omega
theorem padS_byts (c : Int) {nl : List Int} (h : Byts nl) : Byts (padS c nl) := Byts.append (fun b hb => h b (List.mem_of_mem_take hb)) (by intro b hb; have := List.eq_of_mem_replicate hb; omega)
theorem padS_ok (c Wn : Int) (nl : List Int) (hl : nl.length = 5) (hok : ok c = true) : badC c (padS c nl) (wX c Wn) (nbC c ((padS c nl).getD 0 0)) = false := by
  have s5 := sm_le c
  exact bad_of hok (pad_beh (by simp; omega)) (fun hg => by simp [wX, hg]) rfl
theorem ok_eq (c : Int) : ok c = decide (1 ≤ c ∧ c ≤ 26) := rfl
theorem arr5_rd {w : World} {g : Nat} {t : TypeId} {a0 a1 a2 a3 a4 : Int} (h : w.heap[g]? = some (.cells #[.int .u8 a0, .int .u8 a1, .int .u8 a2, .int .u8 a3, .int .u8 a4] t (0, 0))) (hb : Byts [a0, a1, a2, a3, a4]) : Rd w (some ⟨g, 0, none⟩) 5 [a0, a1, a2, a3, a4] := by
  refine ⟨⟨rfl, fun _ => ⟨_, rfl, blk_lt h, fun j u hu => cells_of_blk h j u ?_⟩⟩, hb⟩
  exact hu
def OfR (g : Nat) (v12 : Value) (ys : List Int) (wr : World) : Prop :=
  ∃ g12 K c12, v12 = .slice (some ⟨g12, 0, none⟩) K c12 ∧ 7 ≤ K ∧ K ≤ c12 ∧ c12 ≤ maxLen ∧ Rd wr (some ⟨g12, 0, none⟩) K (ys.take 7 ++ List.replicate 7 0) ∧ g12 ≠ g
set_option maxRecDepth 100000 in
set_option maxHeartbeats 2000000 in
theorem of_ok (c n0 n1 n2 n3 n4 Wn : Int) (g7 g8 g9 : Nat) (Y : Option Addr) (m d : Nat) (ys : List Int) (w : World) (h0 : 0 ≤ c) (h1 : c < 256) (hok : ok c = true) (hnl : Byts [n0, n1, n2, n3, n4]) (W0 : 0 ≤ Wn) (W1' : Wn < 4294967296)
    (K7 : w.heap[g7]? = some (.cells #[.int .u8 n0, .int .u8 n1, .int .u8 n2, .int .u8 n3, .int .u8 n4] 22 (0, 0))) (K8 : w.heap[g8]? = some (.cells #[.int .u32 Wn] 23 (0, 0))) (K9 : w.heap[g9]? = some (.cells #[.slice Y m d] 24 (0, 0)))
    (hy : Rd w Y m ys) (hmd : m ≤ d) (hd : d ≤ maxLen) :
    Calls Try.prog 17 #[.int .u8 c, .pointer (some ⟨g7, 0, none⟩), .pointer (some ⟨g8, 0, none⟩), .pointer (some ⟨g9, 0, none⟩)] w fun e w' => ∃ A' N c', e = .returned (.tuple #[.slice A' N c', .int .i64 0]) ∧ Ext w w' ∧ Rd w' A' N (OfX c Wn [n0, n1, n2, n3, n4] ys) := by
  have s5 := sm_le c
  have hs0 : (0 : Int) ≤ sm c := by omega
  have hs5 : (sm c : Int) ≤ 5 := by omega
  have hmx : (if (sm c : Int) < 0 then (0 : Int) else sm c) = sm c := if_neg (by omega)
  have hmn : (if (5 : Int) < sm c then (5 : Int) else sm c) = sm c := if_neg (by omega)
  obtain ⟨a0, a1, a2, a3, a4, hA⟩ := list5 (padS_len c [n0, n1, n2, n3, n4] rfl)
  have hab := padS_byts c hnl
  have hgood := padS_ok c Wn [n0, n1, n2, n3, n4] rfl hok
  rw [hA] at hab hgood
  have HA := Lib.hid hA
  have HG := Lib.hid hgood
  obtain ⟨p0, p1⟩ := hab a0 (by simp)
  have hlt : ([n0, n1, n2, n3, n4].take (sm c)).length = sm c := by simp; omega
  have hsp := splice5 c (.int .u32 0) (.slice none 0 0) ([n0, n1, n2, n3, n4].take (sm c)) (by omega)
  rw [hlt, show [n0, n1, n2, n3, n4].take (sm c) ++ List.replicate (5 - sm c) 0 = padS c [n0, n1, n2, n3, n4] from rfl, hA] at hsp
  have HSP := Lib.hid hsp
  have HLT := Lib.hid hlt
  clear hA hgood hsp hlt
  have hnb := Lib.hid (nb_two (sm c) (mo c) a0 (sm_mo c h0))
  have m7 := mo_le c
  have hnn := nbC_le c a0
  go_enter Try.func17, Try.ntmps17
  go_upto_region 3 with (go_at_call 11; (with_reducible refine (shape_any _ _ h0 h1).mono ?_); rintro e w1 ⟨rfl, rfl⟩)
  obtain ⟨W1, hW1⟩ : ∃ V, V = w.alloc (.cells #[.int .u8 c, .int .u8 0, .int .u8 0, .int .u8 0, .int .u8 0, .int .u8 0, .int .u32 0, .slice none 0 0] 26) := ⟨_, rfl⟩
  rw [← hW1]
  have v1 : Ext w W1 := by rw [hW1]; exact (Ext.refl _).alloc _
  have KC : W1.heap[w.heap.size]? = some (.cells #[.int .u8 c, .int .u8 0, .int .u8 0, .int .u8 0, .int .u8 0, .int .u8 0, .int .u32 0, .slice none 0 0] 26 (0, 0)) := by rw [hW1]; exact heap_alloc_new _ _
  clear hW1
  have hok' := hok
  clear hok
  have HOK := Lib.hid hok'
  clear hok'
  generalize hgg : w.heap.size = g at *
  have HGG := Lib.hid hgg
  clear hgg
  go_cut [30] (fun v30 wr => wr.heap[g]? = some (.cells #[.int .u8 c, .int .u8 a0, .int .u8 a1, .int .u8 a2, .int .u8 a3, .int .u8 a4, .int .u32 0, .slice none 0 0] 26 (0, 0)) ∧ Ext w wr)
  case first =>
    refine wp_region_held_drew (S := Ext w) (by kernel_rfl) ((v1).drew) (fun hHeld => ?_)
    obtain ⟨wR, hwD⟩ : ∃ V, V = World.drew W1 := ⟨_, rfl⟩
    rw [← hwD] at hHeld ⊢
    have zz0 : Ext W1 wR := by rw [hwD]; exact (Ext.refl _).drew
    clear hwD
    refine wpAnyH_take (i := 0) (oi := { dst := some 24, op := Op.fieldAddr 26 (Operand.tmp 11) 1, type := 0, pos := "law.go:73", after := #[], guard := none }) (v := ?vv2_3_0) rfl (by kernel_rfl) (by kernel_rfl) (by kernel_rfl) (fun _ _ _ h => h) (Or.inl ⟨by rfl, ?yy2_3_0⟩) hHeld ?_
    case yy2_3_0 => (intro W hx; go_simp; try with_reducible rfl)
    simp only [Act.put, List.setIfInBounds_toArray, List.set_cons_zero, List.set_cons_succ]
    refine wpAnyH_take (i := 1) (oi := { dst := some 25, op := Op.move (Operand.tmp 7), type := 3, pos := "law.go:73", after := #[], guard := none }) (v := ?vv3_3_1) rfl (by kernel_rfl) (by kernel_rfl) (by kernel_rfl) (fun _ _ _ h => h) (Or.inl ⟨by rfl, ?yy3_3_1⟩) hHeld ?_
    case yy3_3_1 => (intro W hx; go_simp; try with_reducible rfl)
    simp only [Act.put, List.setIfInBounds_toArray, List.set_cons_zero, List.set_cons_succ]
    refine wpAnyH_take (i := 2) (oi := { dst := some 26, op := Op.call { callee := Callee.builtin Builtin.max, args := #[Operand.tmp 25, Operand.const (Value.int IntKind.i64 0)], argTypes := #[3, 3] }, type := 3, pos := "law.go:73", after := #[{ on := 1, ground := Ground.data }], guard := none }) (v := ?vv4_3_2) rfl (by kernel_rfl) (by kernel_rfl) (by kernel_rfl) (fun _ _ _ h => h) (Or.inl ⟨by rfl, ?yy4_3_2⟩) hHeld ?_
    case yy4_3_2 => (intro W hx; go_simp; try with_reducible rfl)
    simp only [Act.put, List.setIfInBounds_toArray, List.set_cons_zero, List.set_cons_succ]
    refine wpAnyH_take (i := 3) (oi := { dst := some 27, op := Op.call { callee := Callee.builtin Builtin.min, args := #[Operand.tmp 26, Operand.const (Value.int IntKind.i64 5)], argTypes := #[3, 3] }, type := 3, pos := "law.go:73", after := #[{ on := 2, ground := Ground.data }], guard := none }) (v := ?vv5_3_3) rfl (by kernel_rfl) (by kernel_rfl) (by kernel_rfl) (fun _ _ _ h => h) (Or.inl ⟨by rfl, ?yy5_3_3⟩) hHeld ?_
    case yy5_3_3 => (intro W hx; go_simp; try with_reducible rfl)
    simp only [Act.put, List.setIfInBounds_toArray, List.set_cons_zero, List.set_cons_succ]
    refine wpAnyH_take (i := 4) (oi := { dst := some 28, op := Op.slice 22 (Operand.tmp 24) none (some (Operand.tmp 27)) none, type := 24, pos := "law.go:73", after := #[{ on := 0, ground := Ground.data }, { on := 3, ground := Ground.data }], guard := none }) (v := ?vv6_3_4) rfl (by kernel_rfl) (by kernel_rfl) (by kernel_rfl) (fun _ _ _ h => h) (Or.inl ⟨by rfl, ?yy6_3_4⟩) hHeld ?_
    case yy6_3_4 => (intro W hx; go_simp; try with_reducible rfl)
    simp only [Act.put, List.setIfInBounds_toArray, List.set_cons_zero, List.set_cons_succ]
    refine wpAnyH_take (i := 5) (oi := { dst := some 29, op := Op.slice 22 (Operand.tmp 1) none none none, type := 24, pos := "law.go:73", after := #[], guard := none }) (v := ?vv7_3_5) rfl (by kernel_rfl) (by kernel_rfl) (by kernel_rfl) (fun _ _ _ h => h) (Or.inl ⟨by rfl, ?yy7_3_5⟩) hHeld ?_
    case yy7_3_5 => (intro W hx; go_simp; try with_reducible rfl)
    simp only [Act.put, List.setIfInBounds_toArray, List.set_cons_zero, List.set_cons_succ]
    refine wpAnyH_ready (rs := [6]) (by kernel_rfl) (by simp) (AllReadyH.cons rfl (fun K hK => ?_) AllReadyH.nil)
    refine step_copy_splice (o := { dst := some 30, op := Op.call { callee := Callee.builtin Builtin.copy, args := #[Operand.tmp 28, Operand.tmp 29], argTypes := #[24, 24] }, type := 3, pos := "law.go:73", after := #[{ on := 4, ground := Ground.data }, { on := 5, ground := Ground.data }], guard := none }) rfl (.tmp 28) (.tmp 29) 24 24 rfl 5 Try.underlying24 (by kernel_rfl) _ _ _ _ _ _ rfl rfl g 1 [.int .u8 c, .int .u8 0, .int .u8 0, .int .u8 0, .int .u8 0, .int .u8 0, .int .u32 0, .slice none 0 0] 26 ((zz0.block _ (blk_lt KC)).trans KC) (u8s ([n0, n1, n2, n3, n4].take (sm c))) (by show _ = min _ _; rw [u8s, List.length_map, HLT.out]; omega) (fun hp => ⟨rfl, ?src⟩) (by simp only [u8s, List.length_map, HLT.out, List.length_cons, List.length_nil]; omega) (u8s_one _) g w (by rw [← HGG.out]; exact hHeld) (Nat.le_refl _) ?_; (case src => (obtain ⟨ad, e, _, hc⟩ := (((arr5_rd K7 hnl).ext (v1.trans zz0)).take s5).shows.2 (by rw [u8s, List.length_map, HLT.out] at hp; omega); exact ⟨ad, e, hc⟩)); intro w9 hg9 x9'; have x9 : Ext w w9 := by rw [← HGG.out] at x9'; exact x9'
    simp only [Act.put, List.setIfInBounds_toArray, List.set_cons_zero, List.set_cons_succ]
    refine hK.out _ _ x9 (fun hHeld => ?_)
    clear hK K
    refine wpAnyH_done (by kernel_rfl) ?_ _
    have zend := (Ext.refl w).trans hHeld
    have KD : w9.heap[g]? = some (.cells #[.int .u8 c, .int .u8 a0, .int .u8 a1, .int .u8 a2, .int .u8 a3, .int .u8 a4, .int .u32 0, .slice none 0 0] 26 (0, 0)) := by rw [hg9.out, HSP.out]; rfl
    clear hg9 x9'
    go_wp2
    go_meet
    case rel => exact ⟨KD, x9⟩
  case rest =>
    obtain ⟨KD, xD⟩ := hcut
    obtain ⟨wA, rfl⟩ : ∃ z : World, z = wc := ⟨_, rfl⟩
    clear KC v1 hmx hmn
    have hgw : w.heap.size ≤ g := by rw [HGG.out]; exact Nat.le_refl _
    go_upto_if 31 with (fail)
    go_cut [8, 31] (fun v8 v31 wr => v8 = .bool (gr c) ∧ wr.heap[g]? = some (.cells #[.int .u8 c, .int .u8 a0, .int .u8 a1, .int .u8 a2, .int .u8 a3, .int .u8 a4, .int .u32 (wX c Wn), .slice none 0 0] 26 (0, 0)) ∧ Ext w wr)
    case first =>
      have f8 := blk_cell (i := 0) ((xD.block _ (blk_lt K8)).trans K8) rfl
      have fc := blk_cell (i := 6) KD rfl
      have ff := blk_free (i := 6) KD
      rcases hg : gr c with _ | _
      · have HGR := Lib.hid hg
        go_wp2
        go_meet
        case rel => exact ⟨congrArg Value.bool HGR.out.symm, by rw [show wX c Wn = 0 by simp [wX, HGR.out]]; exact KD, xD⟩
      · have HGR := Lib.hid hg
        go_wp2
        go_meet
        case rel => exact ⟨congrArg Value.bool HGR.out.symm, by rw [show wX c Wn = Wn by simp [wX, HGR.out]]; exact blk_set KD, xD.setCell hgw _⟩
    case rest =>
      obtain ⟨rfl, KE, xE⟩ := hcut
      obtain ⟨wB, rfl⟩ : ∃ z : World, z = wc := ⟨_, rfl⟩
      clear KD xD
      go_upto_if 35 with (fail)
      go_cut [9, 35] (fun v9 v35 wr => v9 = .int .i64 (nbC c a0) ∧ wB = wr)
      case first =>
        obtain ⟨f0, f1, f2, f3, f4, f5, f6, f7⟩ := cells8 KE
        by_cases hs1 : sm c = 1
        · have hb : ((sm c : Int) == 1) = true := by simp [hs1]
          have H1 := Lib.hid hs1
          clear hs1
          go_wp2
          all_goals go_meet
          all_goals exact ⟨congrArg (Value.int .i64) (by unfold nbC; rw [hnb.out, if_pos H1.out]; omega), rfl⟩
        · have hb : ((sm c : Int) == 1) = false := by simp; omega
          have H1 := Lib.hid hs1
          clear hs1
          go_wp2
          go_meet
          case rel => exact ⟨congrArg (Value.int .i64) (by unfold nbC; rw [hnb.out, if_neg H1.out]), rfl⟩
      case rest =>
        obtain ⟨rfl, rfl⟩ := hcut
        have np0 : (0 : Int) ≤ nbC c a0 := by omega
        have n7 : (nbC c a0 : Int) ≤ 7 := by omega
        have q1 : (if (nbC c a0 : Int) < 0 then (0 : Int) else nbC c a0) = nbC c a0 := if_neg (by omega)
        have q2 : (if (7 : Int) < nbC c a0 then (7 : Int) else nbC c a0) = nbC c a0 := if_neg (by omega)
        have f9 := blk_cell (i := 0) ((xE.block _ (blk_lt K9)).trans K9) rfl
        have hyE := hy.ext xE
        have hgd := HG.out
        rw [show ([a0, a1, a2, a3, a4]).getD 0 0 = a0 from rfl] at hgd
        have HGD : Hid (badC c [a0, a1, a2, a3, a4] (wX c Wn) (nbC c a0) = false) := hgd
        clear hgd
        have w0x : 0 ≤ wX c Wn ∧ wX c Wn < 4294967296 := by unfold wX; split <;> omega
        obtain ⟨wx0, wx1⟩ := w0x
        have hpn := putN_le HGD.out h0
        have HKE := Lib.hid KE
        clear KE
        generalize hnbe : nbC c a0 = nv at *
        have HNB := Lib.hid hnbe
        clear hnbe
        go_upto_region 8 with (fail)
        have hmd' : (m : Int) ≤ d := by omega
        have hd' := hd
        unfold maxLen at hd'
        go_cut [12] (fun v12 wr => OfR g v12 ys wr ∧ Ext wB wr)
        case first =>
          have hgl := blk_lt HKE.out
          by_cases h7 : (7 : Int) < m
          · have h7d : (7 : Int) ≤ d := by omega
            have ry := hyE.take (k := 7) (by omega)
            go_wp2_with (refine wpList_app0 rfl (.tmp 49) rfl rfl ry (by omega) ?_; intro c12 w12 x12 l12 m12 r12)
            go_meet
            case rel => exact ⟨⟨_, _, c12, rfl, by omega, l12, m12, r12, by omega⟩, x12⟩
          · have ry : Rd wB Y m (ys.take 7) := by rw [List.take_of_length_le (by have := hy.len; omega)]; exact hyE
            go_wp2_with (refine wpList_app0 rfl (.tmp 49) rfl rfl ry (by omega) ?_; intro c12 w12 x12 l12 m12 r12)
            go_meet
            case rel => exact ⟨⟨_, _, c12, rfl, by omega, l12, m12, r12, by omega⟩, x12⟩
        case rest =>
          obtain ⟨⟨g12, K, c12, rfl, hK7, hKc, hc12, r12, hne⟩, xF⟩ := hcut
          obtain ⟨wF, rfl⟩ : ∃ z : World, z = wc := ⟨_, rfl⟩
          have KF := (xF.block _ (blk_lt HKE.out)).trans HKE.out
          have vF := xE.trans xF
          clear xE xF hyE f9
          have f7 := blk_cell (i := 7) KF rfl
          have ff := blk_free (i := 7) KF
          have hvc : (nv : Int) ≤ c12 := by omega
          have rt := r12.take (k := nv) (by omega)
          go_upto_region 10 with (fail)
          have KH : (wF.setCell ⟨g, 7, none⟩ (.slice (some ⟨g12, 0, none⟩) nv c12)).heap[g]? = some (.cells #[.int .u8 c, .int .u8 a0, .int .u8 a1, .int .u8 a2, .int .u8 a3, .int .u8 a4, .int .u32 (wX c Wn), .slice (some ⟨g12, 0, none⟩) nv c12] 26 (0, 0)) := blk_set KF
          have vH : Ext w (wF.setCell ⟨g, 7, none⟩ (.slice (some ⟨g12, 0, none⟩) nv c12)) := vF.setCell hgw _
          have rH := rd_set (p := ⟨g, 7, none⟩) (v := .slice (some ⟨g12, 0, none⟩) nv c12) rt (fun ad e => by injection e with e; subst e; exact hne)
          generalize wF.setCell ⟨g, 7, none⟩ (.slice (some ⟨g12, 0, none⟩) nv c12) = wH at *
          clear f7 ff KF rt r12
          obtain ⟨f0, f1, f2, f3, f4, f5, f6, f7⟩ := cells8 KH
          have hcc : 1 ≤ c ∧ c ≤ 26 := by simpa [ok] using HOK.out
          obtain ⟨hc1, hc26⟩ := hcc
          have hN8 : ¬ (8 : Int) < putN c nv := by omega
          have hn20 : nv ≤ 20 := by omega
          go_wp2_with (go_at_call 8; (with_reducible refine (put_good _ _ _ _ _ _ _ _ _ _ _ _ h0 h1 hab wx0 wx1 rH hn20 HGD.out).mono ?_); rintro e w2 ⟨A2, c2, rfl, _, _, x2, r2⟩)
          go_ret2
          refine ⟨A2, _, c2, rfl, vH.trans x2, ?_⟩
          have e1 : OfX c Wn [n0, n1, n2, n3, n4] ys = putL c [a0, a1, a2, a3, a4] (wX c Wn) ((ys.take 7 ++ List.replicate 7 0).take nv) := by
            unfold OfX bsX
            rw [HA.out, ← HNB.out]; rfl
          rw [e1]
          exact r2
end Go.Proofs.Ytnfipfgbckbaeaa
