import Derived.Test.YtafdbhajngoafaaT
set_option linter.unusedVariables false
namespace Go.Proofs.Ytafdbhajngoafaa
open Go.RowKit
theorem rankZ' (id : Int) (ext : Bool) (w : World) (hid : 0 ≤ id) (h : id < idsI ext) : Calls Try.prog 20 #[.agg #[.int .u32 id, .bool ext, .int .i64 0, .int .u8 0, .int .u8 0, .int .u8 0, .int .u8 0, .int .u8 0, .int .u8 0, .int .u8 0, .int .u8 0]] w fun e w' => e = .returned (.int .u32 (rankI id ext)) ∧ Ext w w' :=
  rank_any id ext 0 0 0 0 0 0 0 0 0 w hid (by unfold mayB; simp [h])
theorem bits_any (id : Int) (ext : Bool) (w : World) (h0 : 0 ≤ id) (h1 : id < idsI ext) :
    Calls Try.prog 22 #[.agg #[.int .u32 id, .bool ext, .int .i64 0, .int .u8 0, .int .u8 0, .int .u8 0, .int .u8 0, .int .u8 0, .int .u8 0, .int .u8 0, .int .u8 0]] w fun e w' => ∃ A c, e = .returned (.slice A 30 c) ∧ 30 ≤ c ∧ Ext w w' ∧ Shows w' 1 A 30 (u32s (bitsL (rankI id ext))) := by
  cases ext
  · exact bits_short id 0 0 0 0 0 0 0 0 0 w h0 h1
  · exact bits_long id 0 0 0 0 0 0 0 0 0 w h0 h1
def idM (a : Int) (x : Bool) : Int := if x then a % 536870912 else a % 2048
theorem idM_in (a : Int) (x : Bool) (h : 0 ≤ a) : 0 ≤ idM a x ∧ idM a x < idsI x := by cases x <;> simp [idM, idsI] <;> omega
theorem u32s_at {R : Int} {k : Nat} {u : Value} (hk : k < 30) (h : (u32s (bitsL R))[k]? = some u) : u = .int .u32 (bt R (29 - k)) := by
  simp [u32s, bitsL, hk] at h
  exact h.symm
def FrO (a b : Int) (x y : Bool) (g : Nat) (wr : World) : Prop :=
  wr.heap[g]? = some (.cells (#[.int .u32 (idM a x), .bool x, .int .i64 0, .int .u8 0, .int .u8 0, .int .u8 0, .int .u8 0, .int .u8 0, .int .u8 0, .int .u8 0, .int .u8 0]) 26 (0, 0)) ∧ wr.heap[g + 1]? = some (.cells (#[.int .u32 (b % 536870912), .bool y, .int .i64 0, .int .u8 0, .int .u8 0, .int .u8 0, .int .u8 0, .int .u8 0, .int .u8 0, .int .u8 0, .int .u8 0]) 26 (0, 0))
def FrP (a b : Int) (x y : Bool) (g : Nat) (wr : World) : Prop :=
  wr.heap[g]? = some (.cells (#[.int .u32 (idM a x), .bool x, .int .i64 0, .int .u8 0, .int .u8 0, .int .u8 0, .int .u8 0, .int .u8 0, .int .u8 0, .int .u8 0, .int .u8 0]) 26 (0, 0)) ∧ wr.heap[g + 1]? = some (.cells (#[.int .u32 (idM b y), .bool y, .int .i64 0, .int .u8 0, .int .u8 0, .int .u8 0, .int .u8 0, .int .u8 0, .int .u8 0, .int .u8 0, .int .u8 0]) 26 (0, 0))
set_option maxHeartbeats 1000000 in
theorem FrameOrder_law (w : World) (a : Int) (a0 : 0 ≤ a) (a1 : a < 4294967296) (b : Int) (b0 : 0 ≤ b) (b1 : b < 4294967296) (x y : Bool) :
    Calls Try.prog 8 #[.int .u32 a, .int .u32 b, .bool x, .bool y] w fun e w' => e = .returned (.bool true) ∧ Ext w w' := by
  go_enter Try.func8, Try.ntmps8
  go_upto_if 26 with (go_at_call 13; (with_reducible refine (shown_any _).mono ?_); rintro e w3 ⟨rfl, x3⟩)
  have x3' := x3
  obtain ⟨W1, hW1⟩ : ∃ V, V = (w3.alloc (.cells (#[.int .u32 (a % 536870912), .bool x, .int .i64 0, .int .u8 0, .int .u8 0, .int .u8 0, .int .u8 0, .int .u8 0, .int .u8 0, .int .u8 0, .int .u8 0]) 26)).alloc (.cells (#[.int .u32 (b % 536870912), .bool y, .int .i64 0, .int .u8 0, .int .u8 0, .int .u8 0, .int .u8 0, .int .u8 0, .int .u8 0, .int .u8 0, .int .u8 0]) 26) := ⟨_, rfl⟩
  rw [← hW1]
  have v1 : Ext w3 W1 := by rw [hW1]; exact ((Ext.refl _).alloc _).alloc _
  have KF : W1.heap[w3.heap.size]? = some (.cells (#[.int .u32 (a % 536870912), .bool x, .int .i64 0, .int .u8 0, .int .u8 0, .int .u8 0, .int .u8 0, .int .u8 0, .int .u8 0, .int .u8 0, .int .u8 0]) 26 (0, 0)) := by rw [hW1]; exact blk_of ((Ext.refl _).alloc _)
  have KG : W1.heap[w3.heap.size + 1]? = some (.cells (#[.int .u32 (b % 536870912), .bool y, .int .i64 0, .int .u8 0, .int .u8 0, .int .u8 0, .int .u8 0, .int .u8 0, .int .u8 0, .int .u8 0, .int .u8 0]) 26 (0, 0)) := by rw [hW1]; exact blk_new (by simp)
  clear hW1
  generalize hgF : w3.heap.size = gF at *
  have HgF := Lib.hid hgF
  clear hgF
  go_cut [26] (fun v26 wr => FrO a b x y gF wr ∧ Ext w3 wr)
  case first =>
    cases x
    · have f0 := blk_cell (i := 0) KF rfl
      have ff := blk_free (i := 0) KF
      go_wp2
      go_meet
      case rel => exact ⟨⟨blk_set KF, (Below.heap_setCell _ _ _ _ (by simp)).trans KG⟩, v1.setCell (by rw [HgF.out]; simp) _⟩
    · go_wp2
      go_meet
      case rel => exact ⟨⟨KF, KG⟩, v1⟩
  case rest =>
    obtain ⟨⟨KF, KG⟩, v1⟩ := hcut
    obtain ⟨wA, rfl⟩ : ∃ z : World, z = wc := ⟨_, rfl⟩
    go_upto_if 31 with (fail)
    go_cut [31] (fun v31 wr => FrP a b x y gF wr ∧ Ext w3 wr)
    case first =>
      cases y
      · have f0 := blk_cell (i := 0) KG rfl
        have ff := blk_free (i := 0) KG
        go_wp2
        go_meet
        case rel => exact ⟨⟨(Below.heap_setCell _ _ _ _ (by simp)).trans KF, blk_set KG⟩, v1.setCell (by rw [HgF.out]; simp; try omega) _⟩
      · go_wp2
        go_meet
        case rel => exact ⟨⟨KF, KG⟩, v1⟩
    case rest =>
      obtain ⟨⟨KF, KG⟩, v1⟩ := hcut
      obtain ⟨wB, rfl⟩ : ∃ z : World, z = wc := ⟨_, rfl⟩
      obtain ⟨iA0, iA1⟩ := idM_in a x a0
      obtain ⟨iB0, iB1⟩ := idM_in b y b0
      generalize idM a x = A at *
      generalize idM b y = B at *
      go_upto_region 8 with (fail)
      obtain ⟨bR0, bR1⟩ := rank_bits A x iA0 iA1
      obtain ⟨bS0, bS1⟩ := rank_bits B y iB0 iB1
      refine wp_region_held_drew (S := Ext wB) (by kernel_rfl) ((Ext.refl _).drew) (fun hHeld => ?_)
      obtain ⟨wD1, hwD⟩ : ∃ V, V = World.drew wB := ⟨_, rfl⟩
      rw [← hwD]
      clear hHeld
      have zz0 : Ext wB wD1 := by rw [hwD]; exact (Ext.refl _).drew
      clear hwD
      refine wpAnyH_imp (S' := Ext wD1) (fun W h => Ext.trans zz0 h) _ _ _ _ ?_
      have hHeld := Ext.refl wD1
      refine wpAnyH_take (i := 0) (oi := { dst := some 35, op := Op.move (Operand.tmp 12), type := 43, pos := "law.go:110", after := #[], guard := none }) (v := ?vv2_8_0) rfl (by kernel_rfl) (by kernel_rfl) (by kernel_rfl) (fun _ _ _ h => h) (Or.inl ⟨by rfl, ?yy2_8_0⟩) hHeld ?_
      case yy2_8_0 => (intro W hx; go_simp; try with_reducible rfl)
      simp only [Act.put, List.setIfInBounds_toArray, List.set_cons_zero, List.set_cons_succ]
      refine wpAnyH_take (i := 1) (oi := { dst := some 36, op := Op.load 26 (Operand.tmp 10), type := 26, pos := "law.go:110", after := #[], guard := none }) (v := ?vv3_8_1) rfl (by kernel_rfl) (by kernel_rfl) (by kernel_rfl) (fun _ _ _ h => h) (Or.inl ⟨by rfl, ?yy3_8_1⟩) hHeld ?_
      case yy3_8_1 => (intro W hx; have hz := zz0.trans hx; obtain ⟨f0, f1, f2, f3, f4, f5, f6, f7, f8, f9, fa⟩ := cells11 ((hz.block _ (blk_lt KF)).trans KF); obtain ⟨g0, g1, g2, g3, g4, g5, g6, g7, g8, g9, ga⟩ := cells11 ((hz.block _ (blk_lt KG)).trans KG); go_simp; try with_reducible rfl)
      simp only [Act.put, List.setIfInBounds_toArray, List.set_cons_zero, List.set_cons_succ]
      refine wpAnyH_take (i := 3) (oi := { dst := some 38, op := Op.move (Operand.tmp 12), type := 43, pos := "law.go:110", after := #[], guard := none }) (v := ?vv4_8_3) rfl (by kernel_rfl) (by kernel_rfl) (by kernel_rfl) (fun _ _ _ h => h) (Or.inl ⟨by rfl, ?yy4_8_3⟩) hHeld ?_
      case yy4_8_3 => (intro W hx; go_simp; try with_reducible rfl)
      simp only [Act.put, List.setIfInBounds_toArray, List.set_cons_zero, List.set_cons_succ]
      refine wpAnyH_take (i := 4) (oi := { dst := some 39, op := Op.load 26 (Operand.tmp 11), type := 26, pos := "law.go:110", after := #[], guard := none }) (v := ?vv5_8_4) rfl (by kernel_rfl) (by kernel_rfl) (by kernel_rfl) (fun _ _ _ h => h) (Or.inl ⟨by rfl, ?yy5_8_4⟩) hHeld ?_
      case yy5_8_4 => (intro W hx; have hz := zz0.trans hx; obtain ⟨f0, f1, f2, f3, f4, f5, f6, f7, f8, f9, fa⟩ := cells11 ((hz.block _ (blk_lt KF)).trans KF); obtain ⟨g0, g1, g2, g3, g4, g5, g6, g7, g8, g9, ga⟩ := cells11 ((hz.block _ (blk_lt KG)).trans KG); go_simp; try with_reducible rfl)
      simp only [Act.put, List.setIfInBounds_toArray, List.set_cons_zero, List.set_cons_succ]
      refine wpAnyH_ready (rs := [2]) (by kernel_rfl) (by simp) (AllReadyH.cons rfl (fun K hK => ?_) AllReadyH.nil)
      go_simp
      go_wp2_with (go_at_call 22; (with_reducible refine (bits_any _ _ _ iA0 iA1).mono ?_); rintro e w5 ⟨A5, c5, rfl, l5, x5, r5⟩)
      refine hK.out _ _ x5 (fun hHeld => ?_)
      clear hK K
      refine wpAnyH_imp (S' := Ext w5) (fun W h => Ext.trans x5 h) _ _ _ _ ?_
      replace hHeld := Ext.refl w5
      have zz1 := zz0.trans x5
      refine wpAnyH_ready (rs := [5]) (by kernel_rfl) (by simp) (AllReadyH.cons rfl (fun K hK => ?_) AllReadyH.nil)
      go_simp
      go_wp2_with (go_at_call 22; (with_reducible refine (bits_any _ _ _ iB0 iB1).mono ?_); rintro e w6 ⟨A6, c6, rfl, l6, x6, r6⟩)
      refine hK.out _ _ x6 (fun hHeld => ?_)
      clear hK K
      refine wpAnyH_imp (S' := Ext w6) (fun W h => Ext.trans x6 h) _ _ _ _ ?_
      replace hHeld := Ext.refl w6
      have zz2 := zz1.trans x6
      refine wpAnyH_take (i := 6) (oi := { dst := some 13, op := Op.assign (Operand.tmp 37), type := 42, pos := "law.go:110", after := #[{ on := 2, ground := Ground.data }, { on := 5, ground := Ground.chain }, { on := 0, ground := Ground.phase }, { on := 1, ground := Ground.phase }, { on := 2, ground := Ground.phase }, { on := 3, ground := Ground.textOnly Departure.lateStores }, { on := 4, ground := Ground.textOnly Departure.lateStores }, { on := 5, ground := Ground.textOnly Departure.lateStoresUnsure }], guard := none }) (v := ?vv6_8_6) rfl (by kernel_rfl) (by kernel_rfl) (by kernel_rfl) (fun _ _ _ h => h) (Or.inl ⟨by rfl, ?yy6_8_6⟩) hHeld ?_
      case yy6_8_6 => (intro W hx; go_simp; try with_reducible rfl)
      simp only [Act.put, List.setIfInBounds_toArray, List.set_cons_zero, List.set_cons_succ]
      refine wpAnyH_take (i := 7) (oi := { dst := some 14, op := Op.assign (Operand.tmp 40), type := 42, pos := "law.go:110", after := #[{ on := 5, ground := Ground.data }, { on := 6, ground := Ground.chain }, { on := 0, ground := Ground.phase }, { on := 1, ground := Ground.phase }, { on := 2, ground := Ground.phase }, { on := 3, ground := Ground.phase }, { on := 4, ground := Ground.phase }, { on := 5, ground := Ground.phase }, { on := 6, ground := Ground.phase }], guard := none }) (v := ?vv7_8_7) rfl (by kernel_rfl) (by kernel_rfl) (by kernel_rfl) (fun _ _ _ h => h) (Or.inl ⟨by rfl, ?yy7_8_7⟩) hHeld ?_
      case yy7_8_7 => (intro W hx; go_simp; try with_reducible rfl)
      simp only [Act.put, List.setIfInBounds_toArray, List.set_cons_zero, List.set_cons_succ]
      refine wpAnyH_done (by kernel_rfl) ?_ _
      have zend := zz2
      have s5 := r5.ext x6
      have KF6 := Lib.hid ((zend.block _ (blk_lt KF)).trans KF)
      have KG6 := Lib.hid ((zend.block _ (blk_lt KG)).trans KG)
      have v6 := x3'.trans (v1.trans zend)
      have hpre := Pre.zero bR0 bR1 bS0 bS1
      generalize hR : rankI A x = R at *
      generalize hS : rankI B y = S at *
      have HR := Lib.hid hR
      have HS := Lib.hid hS
      clear hR hS KF KG v1 x5 x6 zend l5 l6 r5
      go_wp2
      go_loopw [15, 43] (fun o v wr => ∃ k : Nat, k ≤ 30 ∧ v = .int .i64 k ∧ Pre R S k ∧ Ext w6 wr) (fun _ v _ => (30 - intOf v).toNat)
      case atStart => exact ⟨0, by omega, rfl, hpre, Ext.refl _⟩
      case round =>
        obtain ⟨k, hk, rfl, hp, hx⟩ := hrel
        have HP := Lib.hid hp
        clear hp hpre
        obtain ⟨wr, rfl⟩ : ∃ z : World, z = wr := ⟨_, rfl⟩
        have KFr := (hx.block _ (blk_lt KF6.out)).trans KF6.out
        have KGr := (hx.block _ (blk_lt KG6.out)).trans KG6.out
        have k0 : (0 : Int) ≤ k := by omega
        by_cases hlt : (k : Int) < 30
        · obtain ⟨ba, oa, u, rfl, hba, hu, hca⟩ := (s5.ext hx).cell (k := k) (by omega)
          obtain ⟨bb, ob, u', rfl, hbb, hu', hcb⟩ := (r6.ext hx).cell (k := k) (by omega)
          obtain rfl := u32s_at (by omega) hu
          obtain rfl := u32s_at (by omega) hu'
          clear hu hu'
          have hne := Lib.hid (fun h => HP.out.lt (by omega) h)
          have hsc := Lib.hid (fun h => HP.out.succ (by omega) h)
          generalize bt R (29 - k) = p at *
          generalize bt S (29 - k) = q at *
          by_cases hpq : p = q
          · subst hpq
            go_upto_region 12 with (fail)
            refine wp_region_held_drew (S := Ext wr) (by kernel_rfl) ((Ext.refl _).drew) (fun hHeld => ?_)
            obtain ⟨wC, hwD⟩ : ∃ V, V = World.drew wr := ⟨_, rfl⟩
            rw [← hwD]
            clear hHeld
            have zz0 : Ext wr wC := by rw [hwD]; exact (Ext.refl _).drew
            clear hwD
            refine wpAnyH_imp (S' := Ext wC) (fun W h => Ext.trans zz0 h) _ _ _ _ ?_
            have hHeld := Ext.refl wC
            refine wpAnyH_take (i := 0) (oi := { dst := some 46, op := Op.move (Operand.tmp 13), type := 42, pos := "law.go:112", after := #[], guard := none }) (v := ?vv9_12_0) rfl (by kernel_rfl) (by kernel_rfl) (by kernel_rfl) (fun _ _ _ h => h) (Or.inl ⟨by rfl, ?yy9_12_0⟩) hHeld ?_
            case yy9_12_0 => (intro W hx; go_simp; try with_reducible rfl)
            simp only [Act.put, List.setIfInBounds_toArray, List.set_cons_zero, List.set_cons_succ]
            refine wpAnyH_take (i := 1) (oi := { dst := some 47, op := Op.move (Operand.tmp 15), type := 3, pos := "law.go:112", after := #[], guard := none }) (v := ?vv10_12_1) rfl (by kernel_rfl) (by kernel_rfl) (by kernel_rfl) (fun _ _ _ h => h) (Or.inl ⟨by rfl, ?yy10_12_1⟩) hHeld ?_
            case yy10_12_1 => (intro W hx; go_simp; try with_reducible rfl)
            simp only [Act.put, List.setIfInBounds_toArray, List.set_cons_zero, List.set_cons_succ]
            refine wpAnyH_take (i := 2) (oi := { dst := some 48, op := Op.indexAddr 42 (Operand.tmp 46) (Operand.tmp 47), type := 0, pos := "law.go:112", after := #[{ on := 0, ground := Ground.data }, { on := 1, ground := Ground.data }], guard := none }) (v := ?vv11_12_2) rfl (by kernel_rfl) (by kernel_rfl) (by kernel_rfl) (fun _ _ _ h => h) (Or.inl ⟨by rfl, ?yy11_12_2⟩) hHeld ?_
            case yy11_12_2 => (intro W hx; go_simp; try with_reducible rfl)
            simp only [Act.put, List.setIfInBounds_toArray, List.set_cons_zero, List.set_cons_succ]
            refine wpAnyH_take (i := 3) (oi := { dst := some 49, op := Op.load 22 (Operand.tmp 48), type := 22, pos := "law.go:112", after := #[{ on := 2, ground := Ground.data }], guard := none }) (v := ?vv12_12_3) rfl (by kernel_rfl) (by kernel_rfl) (by kernel_rfl) (fun _ _ _ h => h) (Or.inl ⟨by rfl, ?yy12_12_3⟩) hHeld ?_
            case yy12_12_3 => (intro W hx; have hz := zz0.trans hx; have f0 := (Below.cell hz (p := ⟨ba, oa + k, none⟩) hba).trans hca; have f1 := (Below.cell hz (p := ⟨bb, ob + k, none⟩) hbb).trans hcb; go_simp; try with_reducible rfl)
            simp only [Act.put, List.setIfInBounds_toArray, List.set_cons_zero, List.set_cons_succ]
            refine wpAnyH_take (i := 4) (oi := { dst := some 50, op := Op.move (Operand.tmp 14), type := 42, pos := "law.go:112", after := #[], guard := none }) (v := ?vv13_12_4) rfl (by kernel_rfl) (by kernel_rfl) (by kernel_rfl) (fun _ _ _ h => h) (Or.inl ⟨by rfl, ?yy13_12_4⟩) hHeld ?_
            case yy13_12_4 => (intro W hx; go_simp; try with_reducible rfl)
            simp only [Act.put, List.setIfInBounds_toArray, List.set_cons_zero, List.set_cons_succ]
            refine wpAnyH_take (i := 5) (oi := { dst := some 51, op := Op.move (Operand.tmp 15), type := 3, pos := "law.go:112", after := #[], guard := none }) (v := ?vv14_12_5) rfl (by kernel_rfl) (by kernel_rfl) (by kernel_rfl) (fun _ _ _ h => h) (Or.inl ⟨by rfl, ?yy14_12_5⟩) hHeld ?_
            case yy14_12_5 => (intro W hx; go_simp; try with_reducible rfl)
            simp only [Act.put, List.setIfInBounds_toArray, List.set_cons_zero, List.set_cons_succ]
            refine wpAnyH_take (i := 6) (oi := { dst := some 52, op := Op.indexAddr 42 (Operand.tmp 50) (Operand.tmp 51), type := 0, pos := "law.go:112", after := #[{ on := 4, ground := Ground.data }, { on := 5, ground := Ground.data }], guard := none }) (v := ?vv15_12_6) rfl (by kernel_rfl) (by kernel_rfl) (by kernel_rfl) (fun _ _ _ h => h) (Or.inl ⟨by rfl, ?yy15_12_6⟩) hHeld ?_
            case yy15_12_6 => (intro W hx; go_simp; try with_reducible rfl)
            simp only [Act.put, List.setIfInBounds_toArray, List.set_cons_zero, List.set_cons_succ]
            refine wpAnyH_take (i := 7) (oi := { dst := some 53, op := Op.load 22 (Operand.tmp 52), type := 22, pos := "law.go:112", after := #[{ on := 6, ground := Ground.data }], guard := none }) (v := ?vv16_12_7) rfl (by kernel_rfl) (by kernel_rfl) (by kernel_rfl) (fun _ _ _ h => h) (Or.inl ⟨by rfl, ?yy16_12_7⟩) hHeld ?_
            case yy16_12_7 => (intro W hx; have hz := zz0.trans hx; have f0 := (Below.cell hz (p := ⟨ba, oa + k, none⟩) hba).trans hca; have f1 := (Below.cell hz (p := ⟨bb, ob + k, none⟩) hbb).trans hcb; go_simp; try with_reducible rfl)
            simp only [Act.put, List.setIfInBounds_toArray, List.set_cons_zero, List.set_cons_succ]
            refine wpAnyH_take (i := 8) (oi := { dst := some 54, op := Op.binOp BinOp.neq 22 (Operand.tmp 49) (Operand.tmp 53) 22, type := 4, pos := "law.go:112", after := #[{ on := 3, ground := Ground.data }, { on := 7, ground := Ground.data }], guard := none }) (v := ?vv17_12_8) rfl (by kernel_rfl) (by kernel_rfl) (by kernel_rfl) (fun _ _ _ h => h) (Or.inl ⟨by rfl, ?yy17_12_8⟩) hHeld ?_
            case yy17_12_8 => (intro W hx; go_simp; try with_reducible rfl)
            simp only [Act.put, List.setIfInBounds_toArray, List.set_cons_zero, List.set_cons_succ]
            refine wpAnyH_done (by kernel_rfl) ?_ _
            have zend := zz0
            go_wp2
            go_roundw
            case rel => exact ⟨k + 1, by omega, by go_num, hsc.out rfl, hx.trans zend⟩
            case measure => simp [intOf]; omega
          · have hnb : (p != q) = true := by simpa using hpq
            have hlr := hne.out hpq
            clear hpq
            go_upto_region 12 with (fail)
            refine wp_region_held_drew (S := Ext wr) (by kernel_rfl) ((Ext.refl _).drew) (fun hHeld => ?_)
            obtain ⟨wC, hwD⟩ : ∃ V, V = World.drew wr := ⟨_, rfl⟩
            rw [← hwD]
            clear hHeld
            have zz0 : Ext wr wC := by rw [hwD]; exact (Ext.refl _).drew
            clear hwD
            refine wpAnyH_imp (S' := Ext wC) (fun W h => Ext.trans zz0 h) _ _ _ _ ?_
            have hHeld := Ext.refl wC
            refine wpAnyH_take (i := 0) (oi := { dst := some 46, op := Op.move (Operand.tmp 13), type := 42, pos := "law.go:112", after := #[], guard := none }) (v := ?vv19_12_0) rfl (by kernel_rfl) (by kernel_rfl) (by kernel_rfl) (fun _ _ _ h => h) (Or.inl ⟨by rfl, ?yy19_12_0⟩) hHeld ?_
            case yy19_12_0 => (intro W hx; go_simp; try with_reducible rfl)
            simp only [Act.put, List.setIfInBounds_toArray, List.set_cons_zero, List.set_cons_succ]
            refine wpAnyH_take (i := 1) (oi := { dst := some 47, op := Op.move (Operand.tmp 15), type := 3, pos := "law.go:112", after := #[], guard := none }) (v := ?vv20_12_1) rfl (by kernel_rfl) (by kernel_rfl) (by kernel_rfl) (fun _ _ _ h => h) (Or.inl ⟨by rfl, ?yy20_12_1⟩) hHeld ?_
            case yy20_12_1 => (intro W hx; go_simp; try with_reducible rfl)
            simp only [Act.put, List.setIfInBounds_toArray, List.set_cons_zero, List.set_cons_succ]
            refine wpAnyH_take (i := 2) (oi := { dst := some 48, op := Op.indexAddr 42 (Operand.tmp 46) (Operand.tmp 47), type := 0, pos := "law.go:112", after := #[{ on := 0, ground := Ground.data }, { on := 1, ground := Ground.data }], guard := none }) (v := ?vv21_12_2) rfl (by kernel_rfl) (by kernel_rfl) (by kernel_rfl) (fun _ _ _ h => h) (Or.inl ⟨by rfl, ?yy21_12_2⟩) hHeld ?_
            case yy21_12_2 => (intro W hx; go_simp; try with_reducible rfl)
            simp only [Act.put, List.setIfInBounds_toArray, List.set_cons_zero, List.set_cons_succ]
            refine wpAnyH_take (i := 3) (oi := { dst := some 49, op := Op.load 22 (Operand.tmp 48), type := 22, pos := "law.go:112", after := #[{ on := 2, ground := Ground.data }], guard := none }) (v := ?vv22_12_3) rfl (by kernel_rfl) (by kernel_rfl) (by kernel_rfl) (fun _ _ _ h => h) (Or.inl ⟨by rfl, ?yy22_12_3⟩) hHeld ?_
            case yy22_12_3 => (intro W hx; have hz := zz0.trans hx; have f0 := (Below.cell hz (p := ⟨ba, oa + k, none⟩) hba).trans hca; have f1 := (Below.cell hz (p := ⟨bb, ob + k, none⟩) hbb).trans hcb; go_simp; try with_reducible rfl)
            simp only [Act.put, List.setIfInBounds_toArray, List.set_cons_zero, List.set_cons_succ]
            refine wpAnyH_take (i := 4) (oi := { dst := some 50, op := Op.move (Operand.tmp 14), type := 42, pos := "law.go:112", after := #[], guard := none }) (v := ?vv23_12_4) rfl (by kernel_rfl) (by kernel_rfl) (by kernel_rfl) (fun _ _ _ h => h) (Or.inl ⟨by rfl, ?yy23_12_4⟩) hHeld ?_
            case yy23_12_4 => (intro W hx; go_simp; try with_reducible rfl)
            simp only [Act.put, List.setIfInBounds_toArray, List.set_cons_zero, List.set_cons_succ]
            refine wpAnyH_take (i := 5) (oi := { dst := some 51, op := Op.move (Operand.tmp 15), type := 3, pos := "law.go:112", after := #[], guard := none }) (v := ?vv24_12_5) rfl (by kernel_rfl) (by kernel_rfl) (by kernel_rfl) (fun _ _ _ h => h) (Or.inl ⟨by rfl, ?yy24_12_5⟩) hHeld ?_
            case yy24_12_5 => (intro W hx; go_simp; try with_reducible rfl)
            simp only [Act.put, List.setIfInBounds_toArray, List.set_cons_zero, List.set_cons_succ]
            refine wpAnyH_take (i := 6) (oi := { dst := some 52, op := Op.indexAddr 42 (Operand.tmp 50) (Operand.tmp 51), type := 0, pos := "law.go:112", after := #[{ on := 4, ground := Ground.data }, { on := 5, ground := Ground.data }], guard := none }) (v := ?vv25_12_6) rfl (by kernel_rfl) (by kernel_rfl) (by kernel_rfl) (fun _ _ _ h => h) (Or.inl ⟨by rfl, ?yy25_12_6⟩) hHeld ?_
            case yy25_12_6 => (intro W hx; go_simp; try with_reducible rfl)
            simp only [Act.put, List.setIfInBounds_toArray, List.set_cons_zero, List.set_cons_succ]
            refine wpAnyH_take (i := 7) (oi := { dst := some 53, op := Op.load 22 (Operand.tmp 52), type := 22, pos := "law.go:112", after := #[{ on := 6, ground := Ground.data }], guard := none }) (v := ?vv26_12_7) rfl (by kernel_rfl) (by kernel_rfl) (by kernel_rfl) (fun _ _ _ h => h) (Or.inl ⟨by rfl, ?yy26_12_7⟩) hHeld ?_
            case yy26_12_7 => (intro W hx; have hz := zz0.trans hx; have f0 := (Below.cell hz (p := ⟨ba, oa + k, none⟩) hba).trans hca; have f1 := (Below.cell hz (p := ⟨bb, ob + k, none⟩) hbb).trans hcb; go_simp; try with_reducible rfl)
            simp only [Act.put, List.setIfInBounds_toArray, List.set_cons_zero, List.set_cons_succ]
            refine wpAnyH_take (i := 8) (oi := { dst := some 54, op := Op.binOp BinOp.neq 22 (Operand.tmp 49) (Operand.tmp 53) 22, type := 4, pos := "law.go:112", after := #[{ on := 3, ground := Ground.data }, { on := 7, ground := Ground.data }], guard := none }) (v := ?vv27_12_8) rfl (by kernel_rfl) (by kernel_rfl) (by kernel_rfl) (fun _ _ _ h => h) (Or.inl ⟨by rfl, ?yy27_12_8⟩) hHeld ?_
            case yy27_12_8 => (intro W hx; go_simp; try with_reducible rfl)
            simp only [Act.put, List.setIfInBounds_toArray, List.set_cons_zero, List.set_cons_succ]
            refine wpAnyH_done (by kernel_rfl) ?_ _
            have zend := zz0
            have zc := zend
            go_upto_region 13 with (fail)
            have KFC := (zc.block _ (blk_lt KFr)).trans KFr
            have KGC := (zc.block _ (blk_lt KGr)).trans KGr
            have fC := (Below.cell zc (p := ⟨ba, oa + k, none⟩) hba).trans hca
            refine wp_region_held_drew (S := Ext wC) (by kernel_rfl) ((Ext.refl _).drew) (fun hHeld => ?_)
            obtain ⟨wD28, hwD⟩ : ∃ V, V = World.drew wC := ⟨_, rfl⟩
            rw [← hwD]
            clear hHeld
            have zz0 : Ext wC wD28 := by rw [hwD]; exact (Ext.refl _).drew
            clear hwD
            refine wpAnyH_imp (S' := Ext wD28) (fun W h => Ext.trans zz0 h) _ _ _ _ ?_
            have hHeld := Ext.refl wD28
            refine wpAnyH_take (i := 0) (oi := { dst := some 55, op := Op.move (Operand.tmp 9), type := 4, pos := "law.go:113", after := #[], guard := none }) (v := ?vv29_13_0) rfl (by kernel_rfl) (by kernel_rfl) (by kernel_rfl) (fun _ _ _ h => h) (Or.inl ⟨by rfl, ?yy29_13_0⟩) hHeld ?_
            case yy29_13_0 => (intro W hx; go_simp; try with_reducible rfl)
            simp only [Act.put, List.setIfInBounds_toArray, List.set_cons_zero, List.set_cons_succ]
            refine wpAnyH_take (i := 1) (oi := { dst := some 56, op := Op.move (Operand.tmp 55), type := 4, pos := "law.go:113", after := #[{ on := 0, ground := Ground.data }], guard := none }) (v := ?vv30_13_1) rfl (by kernel_rfl) (by kernel_rfl) (by kernel_rfl) (fun _ _ _ h => h) (Or.inl ⟨by rfl, ?yy30_13_1⟩) hHeld ?_
            case yy30_13_1 => (intro W hx; go_simp; try with_reducible rfl)
            simp only [Act.put, List.setIfInBounds_toArray, List.set_cons_zero, List.set_cons_succ]
            refine wpAnyH_take (i := 2) (oi := { dst := some 57, op := Op.load 26 (Operand.tmp 10), type := 26, pos := "law.go:113", after := #[{ on := 1, ground := Ground.guard }], guard := some (1, true) }) (v := ?vv31_13_2) rfl (by kernel_rfl) (by kernel_rfl) (by kernel_rfl) (fun _ _ _ h => h) (Or.inl ⟨by rfl, ?yy31_13_2⟩) hHeld ?_
            case yy31_13_2 => (intro W hx; have hz := zz0.trans hx; obtain ⟨f0, f1, f2, f3, f4, f5, f6, f7, f8, f9, fa⟩ := cells11 ((hz.block _ (blk_lt KFC)).trans KFC); obtain ⟨g0, g1, g2, g3, g4, g5, g6, g7, g8, g9, ga⟩ := cells11 ((hz.block _ (blk_lt KGC)).trans KGC); go_simp; try with_reducible rfl)
            simp only [Act.put, List.setIfInBounds_toArray, List.set_cons_zero, List.set_cons_succ]
            refine wpAnyH_take (i := 4) (oi := { dst := some 59, op := Op.load 26 (Operand.tmp 11), type := 26, pos := "law.go:113", after := #[{ on := 1, ground := Ground.guard }], guard := some (1, true) }) (v := ?vv32_13_4) rfl (by kernel_rfl) (by kernel_rfl) (by kernel_rfl) (fun _ _ _ h => h) (Or.inl ⟨by rfl, ?yy32_13_4⟩) hHeld ?_
            case yy32_13_4 => (intro W hx; have hz := zz0.trans hx; obtain ⟨f0, f1, f2, f3, f4, f5, f6, f7, f8, f9, fa⟩ := cells11 ((hz.block _ (blk_lt KFC)).trans KFC); obtain ⟨g0, g1, g2, g3, g4, g5, g6, g7, g8, g9, ga⟩ := cells11 ((hz.block _ (blk_lt KGC)).trans KGC); go_simp; try with_reducible rfl)
            simp only [Act.put, List.setIfInBounds_toArray, List.set_cons_zero, List.set_cons_succ]
            refine wpAnyH_take (i := 7) (oi := { dst := some 62, op := Op.move (Operand.tmp 13), type := 42, pos := "law.go:113", after := #[{ on := 1, ground := Ground.guard }], guard := some (1, true) }) (v := ?vv33_13_7) rfl (by kernel_rfl) (by kernel_rfl) (by kernel_rfl) (fun _ _ _ h => h) (Or.inl ⟨by rfl, ?yy33_13_7⟩) hHeld ?_
            case yy33_13_7 => (intro W hx; go_simp; try with_reducible rfl)
            simp only [Act.put, List.setIfInBounds_toArray, List.set_cons_zero, List.set_cons_succ]
            refine wpAnyH_take (i := 8) (oi := { dst := some 63, op := Op.move (Operand.tmp 15), type := 3, pos := "law.go:113", after := #[{ on := 1, ground := Ground.guard }], guard := some (1, true) }) (v := ?vv34_13_8) rfl (by kernel_rfl) (by kernel_rfl) (by kernel_rfl) (fun _ _ _ h => h) (Or.inl ⟨by rfl, ?yy34_13_8⟩) hHeld ?_
            case yy34_13_8 => (intro W hx; go_simp; try with_reducible rfl)
            simp only [Act.put, List.setIfInBounds_toArray, List.set_cons_zero, List.set_cons_succ]
            refine wpAnyH_take (i := 9) (oi := { dst := some 64, op := Op.indexAddr 42 (Operand.tmp 62) (Operand.tmp 63), type := 0, pos := "law.go:113", after := #[{ on := 7, ground := Ground.data }, { on := 8, ground := Ground.data }, { on := 1, ground := Ground.guard }], guard := some (1, true) }) (v := ?vv35_13_9) rfl (by kernel_rfl) (by kernel_rfl) (by kernel_rfl) (fun _ _ _ h => h) (Or.inl ⟨by rfl, ?yy35_13_9⟩) hHeld ?_
            case yy35_13_9 => (intro W hx; go_simp; try with_reducible rfl)
            simp only [Act.put, List.setIfInBounds_toArray, List.set_cons_zero, List.set_cons_succ]
            refine wpAnyH_take (i := 10) (oi := { dst := some 65, op := Op.load 22 (Operand.tmp 64), type := 22, pos := "law.go:113", after := #[{ on := 9, ground := Ground.data }, { on := 1, ground := Ground.guard }], guard := some (1, true) }) (v := ?vv36_13_10) rfl (by kernel_rfl) (by kernel_rfl) (by kernel_rfl) (fun _ _ _ h => h) (Or.inl ⟨by rfl, ?yy36_13_10⟩) hHeld ?_
            case yy36_13_10 => (intro W hx; have hz := zz0.trans hx; have f0 := (Below.cell hz (p := ⟨ba, oa + k, none⟩) (World.block_lt_of_cell? _ _ fC)).trans fC; go_simp; try with_reducible rfl)
            simp only [Act.put, List.setIfInBounds_toArray, List.set_cons_zero, List.set_cons_succ]
            refine wpAnyH_take (i := 11) (oi := { dst := some 66, op := Op.binOp BinOp.eql 22 (Operand.tmp 65) (Operand.const (Value.int IntKind.u32 0)) 22, type := 4, pos := "law.go:113", after := #[{ on := 10, ground := Ground.data }, { on := 1, ground := Ground.guard }], guard := some (1, true) }) (v := ?vv37_13_11) rfl (by kernel_rfl) (by kernel_rfl) (by kernel_rfl) (fun _ _ _ h => h) (Or.inl ⟨by rfl, ?yy37_13_11⟩) hHeld ?_
            case yy37_13_11 => (intro W hx; go_simp; try with_reducible rfl)
            simp only [Act.put, List.setIfInBounds_toArray, List.set_cons_zero, List.set_cons_succ]
            refine wpAnyH_ready (rs := [3]) (by kernel_rfl) (by simp) (AllReadyH.cons rfl (fun K hK => ?_) AllReadyH.nil)
            go_simp
            go_wp2_with (go_at_call 20; (with_reducible refine (rankZ' _ _ _ iA0 iA1).mono ?_); rintro e wp ⟨rfl, xp⟩; rw [HR.out])
            refine hK.out _ _ xp (fun hHeld => ?_)
            clear hK K
            refine wpAnyH_imp (S' := Ext wp) (fun W h => Ext.trans xp h) _ _ _ _ ?_
            replace hHeld := Ext.refl wp
            have zz1 := zz0.trans xp
            refine wpAnyH_ready (rs := [5]) (by kernel_rfl) (by simp) (AllReadyH.cons rfl (fun K hK => ?_) AllReadyH.nil)
            go_simp
            go_wp2_with (go_at_call 20; (with_reducible refine (rankZ' _ _ _ iB0 iB1).mono ?_); rintro e wq ⟨rfl, xq⟩; rw [HS.out])
            refine hK.out _ _ xq (fun hHeld => ?_)
            clear hK K
            refine wpAnyH_imp (S' := Ext wq) (fun W h => Ext.trans xq h) _ _ _ _ ?_
            replace hHeld := Ext.refl wq
            have zz2 := zz1.trans xq
            refine wpAnyH_take (i := 6) (oi := { dst := some 61, op := Op.binOp BinOp.lss 22 (Operand.tmp 58) (Operand.tmp 60) 22, type := 4, pos := "law.go:113", after := #[{ on := 3, ground := Ground.data }, { on := 5, ground := Ground.data }, { on := 1, ground := Ground.guard }], guard := some (1, true) }) (v := ?vv38_13_6) rfl (by kernel_rfl) (by kernel_rfl) (by kernel_rfl) (fun _ _ _ h => h) (Or.inl ⟨by rfl, ?yy38_13_6⟩) hHeld ?_
            case yy38_13_6 => (intro W hx; go_simp; try with_reducible rfl)
            simp only [Act.put, List.setIfInBounds_toArray, List.set_cons_zero, List.set_cons_succ]
            refine wpAnyH_take (i := 12) (oi := { dst := some 67, op := Op.binOp BinOp.eql 4 (Operand.tmp 61) (Operand.tmp 66) 4, type := 4, pos := "law.go:113", after := #[{ on := 6, ground := Ground.data }, { on := 11, ground := Ground.data }, { on := 1, ground := Ground.guard }], guard := some (1, true) }) (v := ?vv39_13_12) rfl (by kernel_rfl) (by kernel_rfl) (by kernel_rfl) (fun _ _ _ h => h) (Or.inl ⟨by rfl, ?yy39_13_12⟩) hHeld ?_
            case yy39_13_12 => (intro W hx; go_simp; try with_reducible rfl)
            simp only [Act.put, List.setIfInBounds_toArray, List.set_cons_zero, List.set_cons_succ]
            refine wpAnyH_take (i := 13) (oi := { dst := some 68, op := Op.pick (Operand.tmp 56) (Operand.tmp 67) (Operand.const (Value.bool false)), type := 4, pos := "law.go:113", after := #[{ on := 1, ground := Ground.data }, { on := 12, ground := Ground.data }], guard := none }) (v := ?vv40_13_13) rfl (by kernel_rfl) (by kernel_rfl) (by kernel_rfl) (fun _ _ _ h => h) (Or.inl ⟨by rfl, ?yy40_13_13⟩) hHeld ?_
            case yy40_13_13 => (intro W hx; go_simp; try with_reducible rfl)
            simp only [Act.put, List.setIfInBounds_toArray, List.set_cons_zero, List.set_cons_succ]
            refine wpAnyH_take (i := 14) (oi := { dst := some 8, op := Op.assign (Operand.tmp 68), type := 4, pos := "law.go:113", after := #[{ on := 13, ground := Ground.data }, { on := 5, ground := Ground.chain }, { on := 0, ground := Ground.phase }, { on := 1, ground := Ground.phase }, { on := 2, ground := Ground.phase }, { on := 3, ground := Ground.phase }, { on := 4, ground := Ground.phase }, { on := 5, ground := Ground.phase }, { on := 6, ground := Ground.phase }, { on := 7, ground := Ground.phase }, { on := 8, ground := Ground.phase }, { on := 9, ground := Ground.phase }, { on := 10, ground := Ground.phase }, { on := 11, ground := Ground.phase }, { on := 12, ground := Ground.phase }, { on := 13, ground := Ground.phase }], guard := none }) (v := ?vv41_13_14) rfl (by kernel_rfl) (by kernel_rfl) (by kernel_rfl) (fun _ _ _ h => h) (Or.inl ⟨by rfl, ?yy41_13_14⟩) hHeld ?_
            case yy41_13_14 => (intro W hx; go_simp; try with_reducible rfl)
            simp only [Act.put, List.setIfInBounds_toArray, List.set_cons_zero, List.set_cons_succ]
            refine wpAnyH_done (by kernel_rfl) ?_ _
            have zend := zz2
            go_wp2
            go_ret
            exact ⟨by simp, v6.trans (hx.trans (zc.trans zend))⟩
        · obtain rfl : k = 30 := by omega
          have hRS := HP.out.last
          subst hRS
          go_upto_region 15 with (fail)
          refine wp_region_held_drew (S := Ext wr) (by kernel_rfl) ((Ext.refl _).drew) (fun hHeld => ?_)
          obtain ⟨wD42, hwD⟩ : ∃ V, V = World.drew wr := ⟨_, rfl⟩
          rw [← hwD]
          clear hHeld
          have zz0 : Ext wr wD42 := by rw [hwD]; exact (Ext.refl _).drew
          clear hwD
          refine wpAnyH_imp (S' := Ext wD42) (fun W h => Ext.trans zz0 h) _ _ _ _ ?_
          have hHeld := Ext.refl wD42
          refine wpAnyH_take (i := 0) (oi := { dst := some 70, op := Op.move (Operand.tmp 9), type := 4, pos := "law.go:116", after := #[], guard := none }) (v := ?vv43_15_0) rfl (by kernel_rfl) (by kernel_rfl) (by kernel_rfl) (fun _ _ _ h => h) (Or.inl ⟨by rfl, ?yy43_15_0⟩) hHeld ?_
          case yy43_15_0 => (intro W hx; go_simp; try with_reducible rfl)
          simp only [Act.put, List.setIfInBounds_toArray, List.set_cons_zero, List.set_cons_succ]
          refine wpAnyH_take (i := 1) (oi := { dst := some 71, op := Op.move (Operand.tmp 70), type := 4, pos := "law.go:116", after := #[{ on := 0, ground := Ground.data }], guard := none }) (v := ?vv44_15_1) rfl (by kernel_rfl) (by kernel_rfl) (by kernel_rfl) (fun _ _ _ h => h) (Or.inl ⟨by rfl, ?yy44_15_1⟩) hHeld ?_
          case yy44_15_1 => (intro W hx; go_simp; try with_reducible rfl)
          simp only [Act.put, List.setIfInBounds_toArray, List.set_cons_zero, List.set_cons_succ]
          refine wpAnyH_take (i := 2) (oi := { dst := some 72, op := Op.load 26 (Operand.tmp 10), type := 26, pos := "law.go:116", after := #[{ on := 1, ground := Ground.guard }], guard := some (1, true) }) (v := ?vv45_15_2) rfl (by kernel_rfl) (by kernel_rfl) (by kernel_rfl) (fun _ _ _ h => h) (Or.inl ⟨by rfl, ?yy45_15_2⟩) hHeld ?_
          case yy45_15_2 => (intro W hx; have hz := zz0.trans hx; obtain ⟨f0, f1, f2, f3, f4, f5, f6, f7, f8, f9, fa⟩ := cells11 ((hz.block _ (blk_lt KFr)).trans KFr); obtain ⟨g0, g1, g2, g3, g4, g5, g6, g7, g8, g9, ga⟩ := cells11 ((hz.block _ (blk_lt KGr)).trans KGr); go_simp; try with_reducible rfl)
          simp only [Act.put, List.setIfInBounds_toArray, List.set_cons_zero, List.set_cons_succ]
          refine wpAnyH_take (i := 4) (oi := { dst := some 74, op := Op.load 26 (Operand.tmp 11), type := 26, pos := "law.go:116", after := #[{ on := 1, ground := Ground.guard }], guard := some (1, true) }) (v := ?vv46_15_4) rfl (by kernel_rfl) (by kernel_rfl) (by kernel_rfl) (fun _ _ _ h => h) (Or.inl ⟨by rfl, ?yy46_15_4⟩) hHeld ?_
          case yy46_15_4 => (intro W hx; have hz := zz0.trans hx; obtain ⟨f0, f1, f2, f3, f4, f5, f6, f7, f8, f9, fa⟩ := cells11 ((hz.block _ (blk_lt KFr)).trans KFr); obtain ⟨g0, g1, g2, g3, g4, g5, g6, g7, g8, g9, ga⟩ := cells11 ((hz.block _ (blk_lt KGr)).trans KGr); go_simp; try with_reducible rfl)
          simp only [Act.put, List.setIfInBounds_toArray, List.set_cons_zero, List.set_cons_succ]
          refine wpAnyH_ready (rs := [3]) (by kernel_rfl) (by simp) (AllReadyH.cons rfl (fun K hK => ?_) AllReadyH.nil)
          go_simp
          go_wp2_with (go_at_call 20; (with_reducible refine (rankZ' _ _ _ iA0 iA1).mono ?_); rintro e wp ⟨rfl, xp⟩; rw [HR.out])
          refine hK.out _ _ xp (fun hHeld => ?_)
          clear hK K
          refine wpAnyH_imp (S' := Ext wp) (fun W h => Ext.trans xp h) _ _ _ _ ?_
          replace hHeld := Ext.refl wp
          have zz1 := zz0.trans xp
          refine wpAnyH_ready (rs := [5]) (by kernel_rfl) (by simp) (AllReadyH.cons rfl (fun K hK => ?_) AllReadyH.nil)
          go_simp
          go_wp2_with (go_at_call 20; (with_reducible refine (rankZ' _ _ _ iB0 iB1).mono ?_); rintro e wq ⟨rfl, xq⟩; rw [HS.out])
          refine hK.out _ _ xq (fun hHeld => ?_)
          clear hK K
          refine wpAnyH_imp (S' := Ext wq) (fun W h => Ext.trans xq h) _ _ _ _ ?_
          replace hHeld := Ext.refl wq
          have zz2 := zz1.trans xq
          refine wpAnyH_take (i := 6) (oi := { dst := some 76, op := Op.binOp BinOp.eql 22 (Operand.tmp 73) (Operand.tmp 75) 22, type := 4, pos := "law.go:116", after := #[{ on := 3, ground := Ground.data }, { on := 5, ground := Ground.data }, { on := 1, ground := Ground.guard }], guard := some (1, true) }) (v := ?vv47_15_6) rfl (by kernel_rfl) (by kernel_rfl) (by kernel_rfl) (fun _ _ _ h => h) (Or.inl ⟨by rfl, ?yy47_15_6⟩) hHeld ?_
          case yy47_15_6 => (intro W hx; go_simp; try with_reducible rfl)
          simp only [Act.put, List.setIfInBounds_toArray, List.set_cons_zero, List.set_cons_succ]
          refine wpAnyH_take (i := 7) (oi := { dst := some 77, op := Op.pick (Operand.tmp 71) (Operand.tmp 76) (Operand.const (Value.bool false)), type := 4, pos := "law.go:116", after := #[{ on := 1, ground := Ground.data }, { on := 6, ground := Ground.data }], guard := none }) (v := ?vv48_15_7) rfl (by kernel_rfl) (by kernel_rfl) (by kernel_rfl) (fun _ _ _ h => h) (Or.inl ⟨by rfl, ?yy48_15_7⟩) hHeld ?_
          case yy48_15_7 => (intro W hx; go_simp; try with_reducible rfl)
          simp only [Act.put, List.setIfInBounds_toArray, List.set_cons_zero, List.set_cons_succ]
          refine wpAnyH_take (i := 8) (oi := { dst := some 8, op := Op.assign (Operand.tmp 77), type := 4, pos := "law.go:116", after := #[{ on := 7, ground := Ground.data }, { on := 5, ground := Ground.chain }, { on := 0, ground := Ground.phase }, { on := 1, ground := Ground.phase }, { on := 2, ground := Ground.phase }, { on := 3, ground := Ground.phase }, { on := 4, ground := Ground.phase }, { on := 5, ground := Ground.phase }, { on := 6, ground := Ground.phase }, { on := 7, ground := Ground.phase }], guard := none }) (v := ?vv49_15_8) rfl (by kernel_rfl) (by kernel_rfl) (by kernel_rfl) (fun _ _ _ h => h) (Or.inl ⟨by rfl, ?yy49_15_8⟩) hHeld ?_
          case yy49_15_8 => (intro W hx; go_simp; try with_reducible rfl)
          simp only [Act.put, List.setIfInBounds_toArray, List.set_cons_zero, List.set_cons_succ]
          refine wpAnyH_done (by kernel_rfl) ?_ _
          have zend := zz2
          go_wp2
          go_ret
          exact ⟨by simp, v6.trans (hx.trans zend)⟩
end Go.Proofs.Ytafdbhajngoafaa
