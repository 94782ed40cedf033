import Derived.Test.YtnfipfgbckbaeaaK
set_option linter.unusedVariables false
namespace Go.Proofs.Ytnfipfgbckbaeaa
open Go.RowKit
theorem own_eq {a b : World} {base : Nat} {e : TypeId} {size : Nat} {v : Value} {n : Nat} {xs : List Value} (h : a = b) (o : b.ownsRow base e size v n xs) : a.ownsRow base e size v n xs := h ▸ o
theorem own_ne2 {v v' : Value} {s g : Nat} (h : v'.ownBlock = v.ownBlock ∨ v'.ownBlock = some s) (hv : ∀ k, v.ownBlock = some k → k ≠ g) (hs : g < s) : ∀ k, v'.ownBlock = some k → k ≠ g := fun k e => by
  rcases h with h | h
  · exact hv k (h ▸ e)
  · rw [h] at e; injection e with e; omega
theorem wp_app2 {P : Program} {w : World} {o : Oper} {a : Act} {K : Act → World → Prop} {Q : Exit → Act → World → Prop} {t e : TypeId} {size bytes : Nat} {z : Value} (E : Elem P t e size bytes z) (s x : Operand)
    (ho : o.op = .call { callee := .builtin .append, args := #[s, x], argTypes := #[t, t] })
    {base : Nat} {v : Value} {n : Nat} {xs : List Value} (hown : w.ownsRow base e size v n xs) (hs : a.eval s = v)
    {A : Option Addr} {m c : Nat} {news : List Value} (hr : Shows w size A m news) (hx : a.eval x = .slice A m c) (h1 : ∀ u ∈ news, u.oneCell' = true)
    (h63 : n + m ≤ maxLen) (hbytes : (n + m) * bytes ≤ 140737488355328) {w0 : World} (hbase : base = w0.heap.size) (hext : Ext w0 w)
    (h : ∀ v' w', w'.ownsRow base e size v' (n + m) (xs ++ news) → Ext w0 w' → w.grownBy w' v.ownBlock → (v'.ownBlock = v.ownBlock ∨ v'.ownBlock = some w.heap.size) → K (a.put o.dst v') w') : o.wp P a w K Q := by
  subst hbase
  obtain ⟨v', w', hrun, h2, h3, h4⟩ := run_app_any (P := P) (ty := o.type) E w0.heap.size v n xs hown A m c news hr h1 h63 hbytes hext.size
  unfold Oper.wp execOp
  simp only [ho, resolve, invoke, builtin, Sem.run_bind, Sem.run_pure, Result.andThen_ok, List.map_toArray, List.map_cons, List.map_nil, hs, hx, hrun]
  exact h v' w' h2 (Below.grown hext h3 hext.size (fun k hk => (hown.lt k hk).1)) h3 h4
theorem at_lt (o : Int) (h0 : 0 ≤ o) (N : Nat) (hN : 1 ≤ N) : ∃ k : Nat, o % (N : Int) = k ∧ k < N := by
  have h1 := Int.emod_nonneg o (show (N : Int) ≠ 0 by omega)
  have h2 := Int.emod_lt_of_pos o (show (0 : Int) < (N : Int) by omega)
  exact ⟨(o % (N : Int)).toNat, by omega, by omega⟩
theorem rd_k2 {w5 wL wS : World} {A : Option Addr} {n g : Nat} {bs : List Int} (h : Rd w5 A n bs) (x : Ext w5 wL) (hg : wL.grownBy wS (some g)) (hge : w5.heap.size ≤ g) : Rd wS A n bs := by
  refine ⟨⟨h.shows.1, fun hn => ?_⟩, h.byts⟩
  obtain ⟨ad, e, hlt, hc⟩ := h.shows.2 hn
  refine ⟨ad, e, Nat.lt_of_lt_of_le hlt (Nat.le_trans x.size hg.size), fun j u hu => ?_⟩
  have hb : (ad.add j).block < w5.heap.size := by rw [block_add]; exact hlt
  have h1 := (Below.cell x (p := ad.add j) hb).trans (hc j u hu)
  exact hg.cell h1 (by intro e; injection e with e; omega)
theorem back_own {w : World} {base : Nat} {v : Value} {N m : Nat} {L ys xs : List Int} (h : w.ownsRow base 5 1 v (0 + N + m) ((#[] : Array Value).toList ++ u8s L ++ u8s ys)) (he : L ++ ys = xs) (hb : Byts (L ++ ys)) :
    ∃ A c, v = .slice A (N + m) c ∧ N + m ≤ c ∧ c ≤ maxLen ∧ Rd w A (N + m) xs := by
  subst he
  have h' : w.ownsRow base 5 1 v (N + m) (u8s (L ++ ys)) := by simpa [u8s] using h
  exact own_rd h' hb
theorem putL_byts {c W : Int} {al bs : List Int} (h0 : 0 ≤ c) (h1 : c < 256) (ha : Byts al) (hb : Byts bs) : Byts (putL c al W bs) := by
  unfold putL
  refine Byts.append (Byts.append (Byts.append ?_ (fun b h => ha b (List.mem_of_mem_take h))) ?_) hb
  · intro b h; simp at h; omega
  · split
    · exact putB_byts _ _ _
    · exact Byts.nil
def BackD (c a0 a1 a2 a3 a4 W : Int) (n : Nat) (bs : List Int) (v10 v11 : Value) (wr : World) : Prop :=
  v11 = .int .i64 0 ∧ ∃ g A' cp', v10 = .pointer (some ⟨g, 0, none⟩) ∧ wr.heap[g]? = some (.cells #[.int .u8 c, .int .u8 a0, .int .u8 a1, .int .u8 a2, .int .u8 a3, .int .u8 a4, .int .u32 W, .slice A' n cp'] 26 (0, 0)) ∧ Rd wr A' n bs
set_option maxRecDepth 100000 in
set_option maxHeartbeats 2000000 in
theorem CmdBack_law (w : World) (c a0 a1 a2 a3 a4 W : Int) (A : Option Addr) (n cp : Nat) (bs : List Int) (h0 : 0 ≤ c) (h1 : c < 256) (hal : Byts [a0, a1, a2, a3, a4]) (W0 : 0 ≤ W) (W1 : W < 4294967296) (hr : Rd w A n bs) (hnc : n ≤ cp) (hc : cp ≤ maxLen)
    (B : Option Addr) (m d : Nat) (ys : List Int) (hy : Rd w B m ys) (hmd : m ≤ d) (hd : d ≤ maxLen) (o : Int) (o0 : 0 ≤ o) (o1 : o < 256) :
    Calls Try.prog 5 #[.agg #[.int .u8 c, .int .u8 a0, .int .u8 a1, .int .u8 a2, .int .u8 a3, .int .u8 a4, .int .u32 W, .slice A n cp], .slice B m d, .int .u8 o] w fun e w' => e = .returned (.bool true) ∧ Ext w w' := by
  have hr' := hr.take (k := min n 20) (by omega)
  have hm20 : min n 20 ≤ 20 := by omega
  generalize hmm : min n 20 = m1 at *
  have HM := Lib.hid hmm; clear hmm
  have hmd' : (m : Int) ≤ d := by omega
  have hd' := hd
  unfold maxLen at hd'
  rcases hb : badC c [a0, a1, a2, a3, a4] W m1 with _ | _
  · have HB := Lib.hid hb
    have hpn := putN_le hb h0
    have hl1 := hr'.len
    have hpl := putL_len (c := c) (W := W) (al := [a0, a1, a2, a3, a4]) rfl hl1
    clear hb
    go_enter Try.func5, Try.ntmps5
    go_upto_region 2 with (go_at_call 13; (with_reducible refine (shown_any _).mono ?_); rintro e w1 ⟨rfl, x1⟩)
    have K1 := blk_of x1
    have v1 := ((Ext.refl w).alloc (.cells #[.int .u8 c, .int .u8 a0, .int .u8 a1, .int .u8 a2, .int .u8 a3, .int .u8 a4, .int .u32 W, .slice A n cp] 26)).trans x1
    clear x1
    obtain ⟨f0, f1, f2, f3, f4, f5, f6, f7⟩ := cells8 K1
    go_upto_region 5 with (first
      | (go_at_call 9; (with_reducible refine (few_any _ _ _ _ _ _ _ _ _ _ _ hnc hc).mono ?_); rintro e w2 ⟨rfl, x2⟩; rw [HM.out])
      | (go_at_call 8; (with_reducible refine (put_good _ _ _ _ _ _ _ _ _ _ _ _ h0 h1 hal W0 W1 (hr'.ext (v1.trans x2)) hm20 HB.out).mono ?_); rintro e w3 ⟨A3, c3, rfl, l3, m3, x3, r3'⟩))
    clear f0 f1 f2 f3 f4 f5 f6 f7
    have K3 := ((x2.trans x3).block _ (blk_lt K1)).trans K1
    have v3 := v1.trans (x2.trans x3)
    clear x2 x3 K1
    have hN0 : (0 : Int) < putN c m1 := by omega
    have hN8 : (putN c m1 : Int) ≤ 8 := by omega
    have hNb : ((putN c m1 : Int) == 0) = false := by simp; omega
    obtain ⟨ra, he1, he2, he3, he4, he5, he6⟩ := put_take (c := c) (W := W) (al := [a0, a1, a2, a3, a4]) (bs := bs.take m1) (ys.take (min m 20)) rfl W0 W1 hl1 HB.out
    obtain ⟨ka, hka, hkN⟩ := at_lt o o0 (putN c m1) hpn.1
    have hcut := put_cut (c := c) (W := W) (al := [a0, a1, a2, a3, a4]) rfl hl1 HB.out ka hkN
    have hym := hy.take (k := min m 20) (by omega)
    have hm2 : min m 20 ≤ 20 := by omega
    have HE1 := Lib.hid he1
    have HE2 := Lib.hid he2
    have HE3 := Lib.hid he3
    have HE4 := Lib.hid he4
    have HE5 := Lib.hid he5
    have HE6 := Lib.hid he6
    have HC := Lib.hid hcut
    have HPL := Lib.hid hpl
    clear he1 he2 he3 he4 he5 he6 hcut hpl hl1 hpn
    generalize hNN : putN c m1 = NN at *
    have HNN := Lib.hid hNN; clear hNN
    have hLb := putL_byts (c := c) (W := W) h0 h1 hal hr'.byts
    have hbx : Byts (putL c [a0, a1, a2, a3, a4] W (bs.take m1) ++ ys.take (min m 20)) := hLb.append hym.byts
    go_upto_region 7 with (fail)
    go_cut [10, 11] (fun v10 v11 wr => BackD c a0 a1 a2 a3 a4 W m1 (bs.take m1) v10 v11 wr ∧ Ext w3 wr)
    case first =>
      by_cases h20 : (20 : Int) < m
      · have hmm : min m 20 = 20 := by omega
        have h20d : (20 : Int) ≤ d := by omega
        rw [hmm] at hym hm2 HE1 hbx
        clear hmm
        refine wp_region_held_drew (S := Ext w3) (by kernel_rfl) ((Ext.refl _).drew) (fun hHeld => ?_)
        obtain ⟨wB7, hwD⟩ : ∃ V, V = World.drew w3 := ⟨_, rfl⟩
        rw [← hwD]
        clear hHeld
        have zz0 : Ext w3 wB7 := by rw [hwD]; exact (Ext.refl _).drew
        clear hwD
        refine wpAnyH_imp (S' := Ext wB7) (fun W h => Ext.trans zz0 h) _ _ _ _ ?_
        have hHeld := Ext.refl wB7
        have hB := Ext.refl wB7
        have hW := zz0
        refine wpAnyH_take (i := 1) (oi := { dst := some 43, op := Op.move (Operand.tmp 8), type := 24, pos := "law.go:50", after := #[], guard := none }) (v := ?vv2_7_1) rfl (by kernel_rfl) (by kernel_rfl) (by kernel_rfl) (fun _ _ _ h => h) (Or.inl ⟨by rfl, ?yy2_7_1⟩) hHeld ?_
        case yy2_7_1 => (intro W hx; go_simp; try with_reducible rfl)
        simp only [Act.put, List.setIfInBounds_toArray, List.set_cons_zero, List.set_cons_succ]
        refine wpAnyH_take (i := 3) (oi := { dst := some 45, op := Op.move (Operand.tmp 1), type := 24, pos := "law.go:50", after := #[], guard := none }) (v := ?vv3_7_3) rfl (by kernel_rfl) (by kernel_rfl) (by kernel_rfl) (fun _ _ _ h => h) (Or.inl ⟨by rfl, ?yy3_7_3⟩) hHeld ?_
        case yy3_7_3 => (intro W hx; go_simp; try with_reducible rfl)
        simp only [Act.put, List.setIfInBounds_toArray, List.set_cons_zero, List.set_cons_succ]
        refine wpAnyH_take (i := 4) (oi := { dst := some 46, op := Op.move (Operand.tmp 1), type := 24, pos := "law.go:50", after := #[], guard := none }) (v := ?vv4_7_4) rfl (by kernel_rfl) (by kernel_rfl) (by kernel_rfl) (fun _ _ _ h => h) (Or.inl ⟨by rfl, ?yy4_7_4⟩) hHeld ?_
        case yy4_7_4 => (intro W hx; go_simp; try with_reducible rfl)
        simp only [Act.put, List.setIfInBounds_toArray, List.set_cons_zero, List.set_cons_succ]
        refine wpAnyH_take (i := 5) (oi := { dst := some 47, op := Op.call { callee := Callee.builtin Builtin.len, args := #[Operand.tmp 46], argTypes := #[24] }, type := 3, pos := "law.go:50", after := #[{ on := 4, ground := Ground.data }], guard := none }) (v := ?vv5_7_5) rfl (by kernel_rfl) (by kernel_rfl) (by kernel_rfl) (fun _ _ _ h => h) (Or.inl ⟨by rfl, ?yy5_7_5⟩) hHeld ?_
        case yy5_7_5 => (intro W hx; go_simp; try with_reducible rfl)
        simp only [Act.put, List.setIfInBounds_toArray, List.set_cons_zero, List.set_cons_succ]
        refine wpAnyH_take (i := 6) (oi := { dst := some 48, op := Op.call { callee := Callee.builtin Builtin.min, args := #[Operand.tmp 47, Operand.const (Value.int IntKind.i64 20)], argTypes := #[3, 3] }, type := 3, pos := "law.go:50", after := #[{ on := 5, ground := Ground.data }], guard := none }) (v := ?vv6_7_6) rfl (by kernel_rfl) (by kernel_rfl) (by kernel_rfl) (fun _ _ _ h => h) (Or.inl ⟨by rfl, ?yy6_7_6⟩) hHeld ?_
        case yy6_7_6 => (intro W hx; go_simp; try with_reducible rfl)
        simp only [Act.put, List.setIfInBounds_toArray, List.set_cons_zero, List.set_cons_succ]
        refine wpAnyH_take (i := 7) (oi := { dst := some 49, op := Op.slice 24 (Operand.tmp 45) none (some (Operand.tmp 48)) none, type := 24, pos := "law.go:50", after := #[{ on := 3, ground := Ground.data }, { on := 6, ground := Ground.data }], guard := none }) (v := ?vv7_7_7) rfl (by kernel_rfl) (by kernel_rfl) (by kernel_rfl) (fun _ _ _ h => h) (Or.inl ⟨by rfl, ?yy7_7_7⟩) hHeld ?_
        case yy7_7_7 => (intro W hx; go_simp; try with_reducible rfl)
        simp only [Act.put, List.setIfInBounds_toArray, List.set_cons_zero, List.set_cons_succ]
        refine wpAnyH_ready (rs := [0, 13]) (by kernel_rfl) (by simp) (AllReadyH.cons rfl (fun K hK => ?_) (AllReadyH.cons rfl (fun K hK => ?_) AllReadyH.nil))
        · have tok := True.intro
          go_simp
          obtain ⟨wb, hw⟩ : ∃ V, V = World.alloc wB7 (.cells #[] 5) := ⟨_, rfl⟩
          rw [← hw]
          have xb : Ext wB7 wb := by rw [hw]; exact (Ext.refl _).alloc _
          have own0 := own_eq hw (own_lit (e := 5) (size := 1) #[] 0 rfl hB.size (le_max (by omega)) rfl)
          clear hw
          refine hK.out _ _ (hB.trans xb) (fun hHeld => ?_)
          clear hK K
          have hB := hB.trans xb
          have hW := zz0.trans hB
          refine wpAnyH_ready (rs := [2, 13]) (by kernel_rfl) (by simp) (AllReadyH.cons rfl (fun K hK => ?_) (AllReadyH.cons rfl (fun K hK => ?_) AllReadyH.nil))
          · have tok := True.intro
            rw [if_pos (by rfl)]
            refine wp_app2 (o := { dst := some 44, op := Op.call { callee := Callee.builtin Builtin.append, args := #[Operand.tmp 42, Operand.tmp 43], argTypes := #[24, 24] }, type := 24, pos := "law.go:50", after := #[{ on := 0, ground := Ground.data }, { on := 1, ground := Ground.data }], guard := none }) el24 (.tmp 42) (.tmp 43) rfl own0 rfl (r3'.ext hW).shows rfl (u8s_one _) (le_max (by omega)) (by omega) rfl hB ?_; intro V1 wq own1 x9 hg9 hat9
            simp only [Act.put, List.setIfInBounds_toArray, List.set_cons_zero, List.set_cons_succ]
            refine hK.out _ _ x9 (fun hHeld => ?_)
            clear hK K
            have hB := x9
            have hW := zz0.trans hB
            clear own0 hg9 hat9
            refine wpAnyH_ready (rs := [8, 13]) (by kernel_rfl) (by simp) (AllReadyH.cons rfl (fun K hK => ?_) (AllReadyH.cons rfl (fun K hK => ?_) AllReadyH.nil))
            · have tok := True.intro
              rw [if_pos (by rfl)]
              refine wp_app2 (o := { dst := some 50, op := Op.call { callee := Callee.builtin Builtin.append, args := #[Operand.tmp 44, Operand.tmp 49], argTypes := #[24, 24] }, type := 24, pos := "law.go:50", after := #[{ on := 2, ground := Ground.data }, { on := 7, ground := Ground.data }, { on := 2, ground := Ground.chain }], guard := none }) el24 (.tmp 44) (.tmp 49) rfl own1 rfl (hym.ext (v3.trans hW)).shows rfl (u8s_one _) (le_max (by omega)) (by omega) rfl hB ?_; intro V2 wr2 own2 x9 hg9 hat9
              simp only [Act.put, List.setIfInBounds_toArray, List.set_cons_zero, List.set_cons_succ]
              refine hK.out _ _ x9 (fun hHeld => ?_)
              clear hK K
              have hB := x9
              have hW := zz0.trans hB
              clear own1 hg9 hat9
              obtain ⟨A4, c4, rfl, l4, m4, r4⟩ := back_own own2 HE1.out hbx
              refine wpAnyH_ready (rs := [9, 13]) (by kernel_rfl) (by simp) (AllReadyH.cons rfl (fun K hK => ?_) (AllReadyH.cons rfl (fun K hK => ?_) AllReadyH.nil))
              · have tok := True.intro
                go_simp
                go_wp2_with (go_at_call 14; (with_reducible refine (take_okF _ _ _ _ _ _ _ _ _ _ _ (by first | exact r4 | exact r4.ext xa) l4 m4 (by omega) HE2.out HE3.out).mono ?_); rintro e w5 ⟨A5, c5, rfl, l5, m5, x5, r5, fr5⟩; go_must (rw [HE4.out, HE5.out]); go_must (rw [HE5.out, HE6.out] at r5); try (have gz := blk_lt kg))
                refine hK.out _ _ (hB.trans x5) (fun hHeld => ?_)
                clear hK K
                have hB := hB.trans x5
                have hW := zz0.trans hB
                have own2 := own_ext own2 x5
                refine wpAnyH_take (i := 10) (oi := { dst := some 41, op := Op.move (Operand.tmp 51), type := 35, pos := "law.go:50", after := #[{ on := 9, ground := Ground.data }], guard := none }) (v := ?vv8_7_10) rfl (by kernel_rfl) (by kernel_rfl) (by kernel_rfl) (fun _ _ _ h => h) (Or.inl ⟨by rfl, ?yy8_7_10⟩) hHeld ?_
                case yy8_7_10 => (intro W hx; go_simp; try with_reducible rfl)
                simp only [Act.put, List.setIfInBounds_toArray, List.set_cons_zero, List.set_cons_succ]
                refine wpAnyH_take (i := 11) (oi := { dst := some 52, op := Op.extract (Operand.tmp 41) 0, type := 26, pos := "law.go:50", after := #[{ on := 10, ground := Ground.data }], guard := none }) (v := ?vv9_7_11) rfl (by kernel_rfl) (by kernel_rfl) (by kernel_rfl) (fun _ _ _ h => h) (Or.inl ⟨by rfl, ?yy9_7_11⟩) hHeld ?_
                case yy9_7_11 => (intro W hx; go_simp; try with_reducible rfl)
                simp only [Act.put, List.setIfInBounds_toArray, List.set_cons_zero, List.set_cons_succ]
                refine wpAnyH_take (i := 12) (oi := { dst := some 53, op := Op.extract (Operand.tmp 41) 1, type := 27, pos := "law.go:50", after := #[{ on := 10, ground := Ground.data }, { on := 14, ground := Ground.gcOnly Departure.lateStores }], guard := none }) (v := ?vv10_7_12) rfl (by kernel_rfl) (by kernel_rfl) (by kernel_rfl) (fun _ _ _ h => h) (Or.inl ⟨by rfl, ?yy10_7_12⟩) hHeld ?_
                case yy10_7_12 => (intro W hx; go_simp; try with_reducible rfl)
                simp only [Act.put, List.setIfInBounds_toArray, List.set_cons_zero, List.set_cons_succ]
                refine wpAnyH_ready (rs := [13]) (by kernel_rfl) (by simp) (AllReadyH.cons rfl (fun K hK => ?_) AllReadyH.nil)
                go_simp
                obtain ⟨wL, hw⟩ : ∃ V, V = World.alloc w5 (.cells #[.int .u8 0, .int .u8 0, .int .u8 0, .int .u8 0, .int .u8 0, .int .u8 0, .int .u32 0, .slice none 0 0] 26) := ⟨_, rfl⟩
                rw [← hw]
                have xa : Ext w5 wL := by rw [hw]; exact (Ext.refl _).alloc _
                have kg : (World.heap wL)[(World.heap w5).size]? = some (.cells #[.int .u8 0, .int .u8 0, .int .u8 0, .int .u8 0, .int .u8 0, .int .u8 0, .int .u32 0, .slice none 0 0] 26) := by rw [hw]; exact heap_alloc_new _ _
                clear hw
                obtain ⟨gA, hgA⟩ : ∃ q, q = (World.heap w5).size := ⟨_, rfl⟩
                have ne_own2 : ∀ k, Value.ownBlock _ = some k → k ≠ gA := fun k e => by rw [hgA]; exact Nat.ne_of_lt (own2.lt k e).2
                have gB : (World.heap wB7).size ≤ gA := by rw [hgA]; exact hB.size
                have gE := Nat.le_of_eq hgA.symm
                rw [← hgA] at kg ⊢
                clear hgA
                refine hK.out _ _ (hB.trans xa) (fun hHeld => ?_)
                clear hK K
                have hB := hB.trans xa
                have hW := zz0.trans hB
                refine wpAnyH_imp (S' := fun W => Ext wB7 W ∧ ∃ cs, (World.heap W)[gA]? = some (.cells cs 26 (0, 0))) (fun W h => h.1) _ _ _ _ ?_
                have hHeld := And.intro hB (Exists.intro _ kg)
                have own2 := own_ext own2 xa
                refine wpAnyH_ready (rs := [14]) (by kernel_rfl) (by simp) (AllReadyH.cons rfl (fun K hK => ?_) AllReadyH.nil)
                rw [if_pos (by rfl)]
                refine wp_strow (o := { dst := none, op := Op.store 26 (Operand.tmp 10) (Operand.tmp 52), type := 0, pos := "law.go:50", after := #[{ on := 13, ground := Ground.data }, { on := 11, ground := Ground.data }, { on := 9, ground := Ground.chain }, { on := 0, ground := Ground.phase }, { on := 1, ground := Ground.phase }, { on := 2, ground := Ground.phase }, { on := 3, ground := Ground.phase }, { on := 4, ground := Ground.phase }, { on := 5, ground := Ground.phase }, { on := 6, ground := Ground.phase }, { on := 7, ground := Ground.phase }, { on := 8, ground := Ground.phase }, { on := 9, ground := Ground.phase }, { on := 10, ground := Ground.phase }, { on := 11, ground := Ground.phase }, { on := 12, ground := Ground.textOnly Departure.lateStores }, { on := 13, ground := Ground.phase }], guard := none }) _ _ _ rfl kg rfl rfl (by kernel_rfl) rfl (by simp [Value.oneCell']) ?_
                intro wS ks xg
                simp only [Act.put]
                have hB := Ext.of_grown hB xg (fun k e => by cases e; exact gB)
                have hW := zz0.trans hB
                refine hK.out _ _ ⟨hB, _, ks⟩ (fun hHeld => ?_)
                clear hK K
                refine wpAnyH_take (i := 15) (oi := { dst := some 11, op := Op.assign (Operand.tmp 53), type := 27, pos := "law.go:50", after := #[{ on := 12, ground := Ground.data }, { on := 14, ground := Ground.chain }, { on := 0, ground := Ground.phase }, { on := 1, ground := Ground.phase }, { on := 2, ground := Ground.phase }, { on := 3, ground := Ground.phase }, { on := 4, ground := Ground.phase }, { on := 5, ground := Ground.phase }, { on := 6, ground := Ground.phase }, { on := 7, ground := Ground.phase }, { on := 8, ground := Ground.phase }, { on := 9, ground := Ground.phase }, { on := 10, ground := Ground.phase }, { on := 11, ground := Ground.phase }, { on := 12, ground := Ground.phase }, { on := 13, ground := Ground.phase }, { on := 14, ground := Ground.phase }], guard := none }) (v := ?vv11_7_15) rfl (by kernel_rfl) (by kernel_rfl) (by kernel_rfl) (fun _ _ _ h => h) (Or.inl ⟨by rfl, ?yy11_7_15⟩) hHeld ?_
                case yy11_7_15 => (intro W hx; go_simp; try with_reducible rfl)
                simp only [Act.put, List.setIfInBounds_toArray, List.set_cons_zero, List.set_cons_succ]
                refine wpAnyH_done (by kernel_rfl) ?_ _
                have zend := hW
                go_wp2
                go_meet
                case rel => exact ⟨⟨rfl, _, A5, c5, rfl, ks, by first | (refine r5.grown xg ?_; intro ad e h; have := fr5 ad e; simp at h; omega) | exact rd_k2 r5 xa xg gE⟩, zend⟩
              · have tok := True.intro
                go_simp
                obtain ⟨wL, hw⟩ : ∃ V, V = World.alloc wr2 (.cells #[.int .u8 0, .int .u8 0, .int .u8 0, .int .u8 0, .int .u8 0, .int .u8 0, .int .u32 0, .slice none 0 0] 26) := ⟨_, rfl⟩
                rw [← hw]
                have xa : Ext wr2 wL := by rw [hw]; exact (Ext.refl _).alloc _
                have kg : (World.heap wL)[(World.heap wr2).size]? = some (.cells #[.int .u8 0, .int .u8 0, .int .u8 0, .int .u8 0, .int .u8 0, .int .u8 0, .int .u32 0, .slice none 0 0] 26) := by rw [hw]; exact heap_alloc_new _ _
                clear hw
                obtain ⟨gA, hgA⟩ : ∃ q, q = (World.heap wr2).size := ⟨_, rfl⟩
                have ne_own2 : ∀ k, Value.ownBlock _ = some k → k ≠ gA := fun k e => by rw [hgA]; exact Nat.ne_of_lt (own2.lt k e).2
                have gB : (World.heap wB7).size ≤ gA := by rw [hgA]; exact hB.size
                have gE := Nat.le_of_eq hgA.symm
                rw [← hgA] at kg ⊢
                clear hgA
                refine hK.out _ _ (hB.trans xa) (fun hHeld => ?_)
                clear hK K
                have hB := hB.trans xa
                have hW := zz0.trans hB
                refine wpAnyH_imp (S' := fun W => Ext wB7 W ∧ ∃ cs, (World.heap W)[gA]? = some (.cells cs 26 (0, 0))) (fun W h => h.1) _ _ _ _ ?_
                have hHeld := And.intro hB (Exists.intro _ kg)
                have own2 := own_ext own2 xa
                refine wpAnyH_ready (rs := [9]) (by kernel_rfl) (by simp) (AllReadyH.cons rfl (fun K hK => ?_) AllReadyH.nil)
                go_simp
                go_wp2_with (go_at_call 14; (with_reducible refine (take_okF _ _ _ _ _ _ _ _ _ _ _ (by first | exact r4 | exact r4.ext xa) l4 m4 (by omega) HE2.out HE3.out).mono ?_); rintro e w5 ⟨A5, c5, rfl, l5, m5, x5, r5, fr5⟩; go_must (rw [HE4.out, HE5.out]); go_must (rw [HE5.out, HE6.out] at r5); try (have gz := blk_lt kg))
                refine hK.out _ _ ⟨(hB.trans x5), _, ((x5.block _ (blk_lt kg)).trans kg)⟩ (fun hHeld => ?_)
                clear hK K
                have hB := hB.trans x5
                have hW := zz0.trans hB
                have kg := (x5.block _ (blk_lt kg)).trans kg
                have own2 := own_ext own2 x5
                refine wpAnyH_take (i := 10) (oi := { dst := some 41, op := Op.move (Operand.tmp 51), type := 35, pos := "law.go:50", after := #[{ on := 9, ground := Ground.data }], guard := none }) (v := ?vv12_7_10) rfl (by kernel_rfl) (by kernel_rfl) (by kernel_rfl) (fun _ _ _ h => h) (Or.inl ⟨by rfl, ?yy12_7_10⟩) hHeld ?_
                case yy12_7_10 => (intro W hx; go_simp; try with_reducible rfl)
                simp only [Act.put, List.setIfInBounds_toArray, List.set_cons_zero, List.set_cons_succ]
                refine wpAnyH_take (i := 11) (oi := { dst := some 52, op := Op.extract (Operand.tmp 41) 0, type := 26, pos := "law.go:50", after := #[{ on := 10, ground := Ground.data }], guard := none }) (v := ?vv13_7_11) rfl (by kernel_rfl) (by kernel_rfl) (by kernel_rfl) (fun _ _ _ h => h) (Or.inl ⟨by rfl, ?yy13_7_11⟩) hHeld ?_
                case yy13_7_11 => (intro W hx; go_simp; try with_reducible rfl)
                simp only [Act.put, List.setIfInBounds_toArray, List.set_cons_zero, List.set_cons_succ]
                refine wpAnyH_take (i := 12) (oi := { dst := some 53, op := Op.extract (Operand.tmp 41) 1, type := 27, pos := "law.go:50", after := #[{ on := 10, ground := Ground.data }, { on := 14, ground := Ground.gcOnly Departure.lateStores }], guard := none }) (v := ?vv14_7_12) rfl (by kernel_rfl) (by kernel_rfl) (by kernel_rfl) (fun _ _ _ h => h) (Or.inl ⟨by rfl, ?yy14_7_12⟩) hHeld ?_
                case yy14_7_12 => (intro W hx; go_simp; try with_reducible rfl)
                simp only [Act.put, List.setIfInBounds_toArray, List.set_cons_zero, List.set_cons_succ]
                refine wpAnyH_ready (rs := [14]) (by kernel_rfl) (by simp) (AllReadyH.cons rfl (fun K hK => ?_) AllReadyH.nil)
                rw [if_pos (by rfl)]
                refine wp_strow (o := { dst := none, op := Op.store 26 (Operand.tmp 10) (Operand.tmp 52), type := 0, pos := "law.go:50", after := #[{ on := 13, ground := Ground.data }, { on := 11, ground := Ground.data }, { on := 9, ground := Ground.chain }, { on := 0, ground := Ground.phase }, { on := 1, ground := Ground.phase }, { on := 2, ground := Ground.phase }, { on := 3, ground := Ground.phase }, { on := 4, ground := Ground.phase }, { on := 5, ground := Ground.phase }, { on := 6, ground := Ground.phase }, { on := 7, ground := Ground.phase }, { on := 8, ground := Ground.phase }, { on := 9, ground := Ground.phase }, { on := 10, ground := Ground.phase }, { on := 11, ground := Ground.phase }, { on := 12, ground := Ground.textOnly Departure.lateStores }, { on := 13, ground := Ground.phase }], guard := none }) _ _ _ rfl kg rfl rfl (by kernel_rfl) rfl (by simp [Value.oneCell']) ?_
                intro wS ks xg
                simp only [Act.put]
                have hB := Ext.of_grown hB xg (fun k e => by cases e; exact gB)
                have hW := zz0.trans hB
                refine hK.out _ _ ⟨hB, _, ks⟩ (fun hHeld => ?_)
                clear hK K
                refine wpAnyH_take (i := 15) (oi := { dst := some 11, op := Op.assign (Operand.tmp 53), type := 27, pos := "law.go:50", after := #[{ on := 12, ground := Ground.data }, { on := 14, ground := Ground.chain }, { on := 0, ground := Ground.phase }, { on := 1, ground := Ground.phase }, { on := 2, ground := Ground.phase }, { on := 3, ground := Ground.phase }, { on := 4, ground := Ground.phase }, { on := 5, ground := Ground.phase }, { on := 6, ground := Ground.phase }, { on := 7, ground := Ground.phase }, { on := 8, ground := Ground.phase }, { on := 9, ground := Ground.phase }, { on := 10, ground := Ground.phase }, { on := 11, ground := Ground.phase }, { on := 12, ground := Ground.phase }, { on := 13, ground := Ground.phase }, { on := 14, ground := Ground.phase }], guard := none }) (v := ?vv15_7_15) rfl (by kernel_rfl) (by kernel_rfl) (by kernel_rfl) (fun _ _ _ h => h) (Or.inl ⟨by rfl, ?yy15_7_15⟩) hHeld ?_
                case yy15_7_15 => (intro W hx; go_simp; try with_reducible rfl)
                simp only [Act.put, List.setIfInBounds_toArray, List.set_cons_zero, List.set_cons_succ]
                refine wpAnyH_done (by kernel_rfl) ?_ _
                have zend := hW
                go_wp2
                go_meet
                case rel => exact ⟨⟨rfl, _, A5, c5, rfl, ks, by first | (refine r5.grown xg ?_; intro ad e h; have := fr5 ad e; simp at h; omega) | exact rd_k2 r5 xa xg gE⟩, zend⟩
            · have tok := True.intro
              go_simp
              obtain ⟨wL, hw⟩ : ∃ V, V = World.alloc wq (.cells #[.int .u8 0, .int .u8 0, .int .u8 0, .int .u8 0, .int .u8 0, .int .u8 0, .int .u32 0, .slice none 0 0] 26) := ⟨_, rfl⟩
              rw [← hw]
              have xa : Ext wq wL := by rw [hw]; exact (Ext.refl _).alloc _
              have kg : (World.heap wL)[(World.heap wq).size]? = some (.cells #[.int .u8 0, .int .u8 0, .int .u8 0, .int .u8 0, .int .u8 0, .int .u8 0, .int .u32 0, .slice none 0 0] 26) := by rw [hw]; exact heap_alloc_new _ _
              clear hw
              obtain ⟨gA, hgA⟩ : ∃ q, q = (World.heap wq).size := ⟨_, rfl⟩
              have ne_own1 : ∀ k, Value.ownBlock _ = some k → k ≠ gA := fun k e => by rw [hgA]; exact Nat.ne_of_lt (own1.lt k e).2
              have gB : (World.heap wB7).size ≤ gA := by rw [hgA]; exact hB.size
              have gE := Nat.le_of_eq hgA.symm
              rw [← hgA] at kg ⊢
              clear hgA
              refine hK.out _ _ (hB.trans xa) (fun hHeld => ?_)
              clear hK K
              have hB := hB.trans xa
              have hW := zz0.trans hB
              refine wpAnyH_imp (S' := fun W => Ext wB7 W ∧ ∃ cs, (World.heap W)[gA]? = some (.cells cs 26 (0, 0))) (fun W h => h.1) _ _ _ _ ?_
              have hHeld := And.intro hB (Exists.intro _ kg)
              have own1 := own_ext own1 xa
              refine wpAnyH_ready (rs := [8]) (by kernel_rfl) (by simp) (AllReadyH.cons rfl (fun K hK => ?_) AllReadyH.nil)
              rw [if_pos (by rfl)]
              refine wp_app2 (o := { dst := some 50, op := Op.call { callee := Callee.builtin Builtin.append, args := #[Operand.tmp 44, Operand.tmp 49], argTypes := #[24, 24] }, type := 24, pos := "law.go:50", after := #[{ on := 2, ground := Ground.data }, { on := 7, ground := Ground.data }, { on := 2, ground := Ground.chain }], guard := none }) el24 (.tmp 44) (.tmp 49) rfl own1 rfl (hym.ext (v3.trans hW)).shows rfl (u8s_one _) (le_max (by omega)) (by omega) rfl hB ?_; intro V2 wr2 own2 x9 hg9 hat9
              simp only [Act.put, List.setIfInBounds_toArray, List.set_cons_zero, List.set_cons_succ]
              have kg2 := (hg9.block _ (blk_lt kg) (fun e => ne_own1 _ e.symm rfl)).trans kg
              refine hK.out _ _ ⟨x9, _, kg2⟩ (fun hHeld => ?_)
              clear hK K
              have ne_own2 : ∀ k, Value.ownBlock V2 = some k → k ≠ gA := own_ne2 hat9 ne_own1 (blk_lt kg)
              have kg := kg2; clear kg2
              have hB := x9
              have hW := zz0.trans hB
              clear own1 hg9 hat9
              obtain ⟨A4, c4, rfl, l4, m4, r4⟩ := back_own own2 HE1.out hbx
              refine wpAnyH_ready (rs := [9]) (by kernel_rfl) (by simp) (AllReadyH.cons rfl (fun K hK => ?_) AllReadyH.nil)
              go_simp
              go_wp2_with (go_at_call 14; (with_reducible refine (take_okF _ _ _ _ _ _ _ _ _ _ _ (by first | exact r4 | exact r4.ext xa) l4 m4 (by omega) HE2.out HE3.out).mono ?_); rintro e w5 ⟨A5, c5, rfl, l5, m5, x5, r5, fr5⟩; go_must (rw [HE4.out, HE5.out]); go_must (rw [HE5.out, HE6.out] at r5); try (have gz := blk_lt kg))
              refine hK.out _ _ ⟨(hB.trans x5), _, ((x5.block _ (blk_lt kg)).trans kg)⟩ (fun hHeld => ?_)
              clear hK K
              have hB := hB.trans x5
              have hW := zz0.trans hB
              have kg := (x5.block _ (blk_lt kg)).trans kg
              have own2 := own_ext own2 x5
              refine wpAnyH_take (i := 10) (oi := { dst := some 41, op := Op.move (Operand.tmp 51), type := 35, pos := "law.go:50", after := #[{ on := 9, ground := Ground.data }], guard := none }) (v := ?vv16_7_10) rfl (by kernel_rfl) (by kernel_rfl) (by kernel_rfl) (fun _ _ _ h => h) (Or.inl ⟨by rfl, ?yy16_7_10⟩) hHeld ?_
              case yy16_7_10 => (intro W hx; go_simp; try with_reducible rfl)
              simp only [Act.put, List.setIfInBounds_toArray, List.set_cons_zero, List.set_cons_succ]
              refine wpAnyH_take (i := 11) (oi := { dst := some 52, op := Op.extract (Operand.tmp 41) 0, type := 26, pos := "law.go:50", after := #[{ on := 10, ground := Ground.data }], guard := none }) (v := ?vv17_7_11) rfl (by kernel_rfl) (by kernel_rfl) (by kernel_rfl) (fun _ _ _ h => h) (Or.inl ⟨by rfl, ?yy17_7_11⟩) hHeld ?_
              case yy17_7_11 => (intro W hx; go_simp; try with_reducible rfl)
              simp only [Act.put, List.setIfInBounds_toArray, List.set_cons_zero, List.set_cons_succ]
              refine wpAnyH_take (i := 12) (oi := { dst := some 53, op := Op.extract (Operand.tmp 41) 1, type := 27, pos := "law.go:50", after := #[{ on := 10, ground := Ground.data }, { on := 14, ground := Ground.gcOnly Departure.lateStores }], guard := none }) (v := ?vv18_7_12) rfl (by kernel_rfl) (by kernel_rfl) (by kernel_rfl) (fun _ _ _ h => h) (Or.inl ⟨by rfl, ?yy18_7_12⟩) hHeld ?_
              case yy18_7_12 => (intro W hx; go_simp; try with_reducible rfl)
              simp only [Act.put, List.setIfInBounds_toArray, List.set_cons_zero, List.set_cons_succ]
              refine wpAnyH_ready (rs := [14]) (by kernel_rfl) (by simp) (AllReadyH.cons rfl (fun K hK => ?_) AllReadyH.nil)
              rw [if_pos (by rfl)]
              refine wp_strow (o := { dst := none, op := Op.store 26 (Operand.tmp 10) (Operand.tmp 52), type := 0, pos := "law.go:50", after := #[{ on := 13, ground := Ground.data }, { on := 11, ground := Ground.data }, { on := 9, ground := Ground.chain }, { on := 0, ground := Ground.phase }, { on := 1, ground := Ground.phase }, { on := 2, ground := Ground.phase }, { on := 3, ground := Ground.phase }, { on := 4, ground := Ground.phase }, { on := 5, ground := Ground.phase }, { on := 6, ground := Ground.phase }, { on := 7, ground := Ground.phase }, { on := 8, ground := Ground.phase }, { on := 9, ground := Ground.phase }, { on := 10, ground := Ground.phase }, { on := 11, ground := Ground.phase }, { on := 12, ground := Ground.textOnly Departure.lateStores }, { on := 13, ground := Ground.phase }], guard := none }) _ _ _ rfl kg rfl rfl (by kernel_rfl) rfl (by simp [Value.oneCell']) ?_
              intro wS ks xg
              simp only [Act.put]
              have hB := Ext.of_grown hB xg (fun k e => by cases e; exact gB)
              have hW := zz0.trans hB
              refine hK.out _ _ ⟨hB, _, ks⟩ (fun hHeld => ?_)
              clear hK K
              refine wpAnyH_take (i := 15) (oi := { dst := some 11, op := Op.assign (Operand.tmp 53), type := 27, pos := "law.go:50", after := #[{ on := 12, ground := Ground.data }, { on := 14, ground := Ground.chain }, { on := 0, ground := Ground.phase }, { on := 1, ground := Ground.phase }, { on := 2, ground := Ground.phase }, { on := 3, ground := Ground.phase }, { on := 4, ground := Ground.phase }, { on := 5, ground := Ground.phase }, { on := 6, ground := Ground.phase }, { on := 7, ground := Ground.phase }, { on := 8, ground := Ground.phase }, { on := 9, ground := Ground.phase }, { on := 10, ground := Ground.phase }, { on := 11, ground := Ground.phase }, { on := 12, ground := Ground.phase }, { on := 13, ground := Ground.phase }, { on := 14, ground := Ground.phase }], guard := none }) (v := ?vv19_7_15) rfl (by kernel_rfl) (by kernel_rfl) (by kernel_rfl) (fun _ _ _ h => h) (Or.inl ⟨by rfl, ?yy19_7_15⟩) hHeld ?_
              case yy19_7_15 => (intro W hx; go_simp; try with_reducible rfl)
              simp only [Act.put, List.setIfInBounds_toArray, List.set_cons_zero, List.set_cons_succ]
              refine wpAnyH_done (by kernel_rfl) ?_ _
              have zend := hW
              go_wp2
              go_meet
              case rel => exact ⟨⟨rfl, _, A5, c5, rfl, ks, by first | (refine r5.grown xg ?_; intro ad e h; have := fr5 ad e; simp at h; omega) | exact rd_k2 r5 xa xg gE⟩, zend⟩
          · have tok := True.intro
            go_simp
            obtain ⟨wL, hw⟩ : ∃ V, V = World.alloc wb (.cells #[.int .u8 0, .int .u8 0, .int .u8 0, .int .u8 0, .int .u8 0, .int .u8 0, .int .u32 0, .slice none 0 0] 26) := ⟨_, rfl⟩
            rw [← hw]
            have xa : Ext wb wL := by rw [hw]; exact (Ext.refl _).alloc _
            have kg : (World.heap wL)[(World.heap wb).size]? = some (.cells #[.int .u8 0, .int .u8 0, .int .u8 0, .int .u8 0, .int .u8 0, .int .u8 0, .int .u32 0, .slice none 0 0] 26) := by rw [hw]; exact heap_alloc_new _ _
            clear hw
            obtain ⟨gA, hgA⟩ : ∃ q, q = (World.heap wb).size := ⟨_, rfl⟩
            have ne_own0 : ∀ k, Value.ownBlock _ = some k → k ≠ gA := fun k e => by rw [hgA]; exact Nat.ne_of_lt (own0.lt k e).2
            have gB : (World.heap wB7).size ≤ gA := by rw [hgA]; exact hB.size
            have gE := Nat.le_of_eq hgA.symm
            rw [← hgA] at kg ⊢
            clear hgA
            refine hK.out _ _ (hB.trans xa) (fun hHeld => ?_)
            clear hK K
            have hB := hB.trans xa
            have hW := zz0.trans hB
            refine wpAnyH_imp (S' := fun W => Ext wB7 W ∧ ∃ cs, (World.heap W)[gA]? = some (.cells cs 26 (0, 0))) (fun W h => h.1) _ _ _ _ ?_
            have hHeld := And.intro hB (Exists.intro _ kg)
            have own0 := own_ext own0 xa
            refine wpAnyH_ready (rs := [2]) (by kernel_rfl) (by simp) (AllReadyH.cons rfl (fun K hK => ?_) AllReadyH.nil)
            rw [if_pos (by rfl)]
            refine wp_app2 (o := { dst := some 44, op := Op.call { callee := Callee.builtin Builtin.append, args := #[Operand.tmp 42, Operand.tmp 43], argTypes := #[24, 24] }, type := 24, pos := "law.go:50", after := #[{ on := 0, ground := Ground.data }, { on := 1, ground := Ground.data }], guard := none }) el24 (.tmp 42) (.tmp 43) rfl own0 rfl (r3'.ext hW).shows rfl (u8s_one _) (le_max (by omega)) (by omega) rfl hB ?_; intro V1 wq own1 x9 hg9 hat9
            simp only [Act.put, List.setIfInBounds_toArray, List.set_cons_zero, List.set_cons_succ]
            have kg2 := (hg9.block _ (blk_lt kg) (fun e => ne_own0 _ e.symm rfl)).trans kg
            refine hK.out _ _ ⟨x9, _, kg2⟩ (fun hHeld => ?_)
            clear hK K
            have ne_own1 : ∀ k, Value.ownBlock V1 = some k → k ≠ gA := own_ne2 hat9 ne_own0 (blk_lt kg)
            have kg := kg2; clear kg2
            have hB := x9
            have hW := zz0.trans hB
            clear own0 hg9 hat9
            refine wpAnyH_ready (rs := [8]) (by kernel_rfl) (by simp) (AllReadyH.cons rfl (fun K hK => ?_) AllReadyH.nil)
            rw [if_pos (by rfl)]
            refine wp_app2 (o := { dst := some 50, op := Op.call { callee := Callee.builtin Builtin.append, args := #[Operand.tmp 44, Operand.tmp 49], argTypes := #[24, 24] }, type := 24, pos := "law.go:50", after := #[{ on := 2, ground := Ground.data }, { on := 7, ground := Ground.data }, { on := 2, ground := Ground.chain }], guard := none }) el24 (.tmp 44) (.tmp 49) rfl own1 rfl (hym.ext (v3.trans hW)).shows rfl (u8s_one _) (le_max (by omega)) (by omega) rfl hB ?_; intro V2 wr2 own2 x9 hg9 hat9
            simp only [Act.put, List.setIfInBounds_toArray, List.set_cons_zero, List.set_cons_succ]
            have kg2 := (hg9.block _ (blk_lt kg) (fun e => ne_own1 _ e.symm rfl)).trans kg
            refine hK.out _ _ ⟨x9, _, kg2⟩ (fun hHeld => ?_)
            clear hK K
            have ne_own2 : ∀ k, Value.ownBlock V2 = some k → k ≠ gA := own_ne2 hat9 ne_own1 (blk_lt kg)
            have kg := kg2; clear kg2
            have hB := x9
            have hW := zz0.trans hB
            clear own1 hg9 hat9
            obtain ⟨A4, c4, rfl, l4, m4, r4⟩ := back_own own2 HE1.out hbx
            refine wpAnyH_ready (rs := [9]) (by kernel_rfl) (by simp) (AllReadyH.cons rfl (fun K hK => ?_) AllReadyH.nil)
            go_simp
            go_wp2_with (go_at_call 14; (with_reducible refine (take_okF _ _ _ _ _ _ _ _ _ _ _ (by first | exact r4 | exact r4.ext xa) l4 m4 (by omega) HE2.out HE3.out).mono ?_); rintro e w5 ⟨A5, c5, rfl, l5, m5, x5, r5, fr5⟩; go_must (rw [HE4.out, HE5.out]); go_must (rw [HE5.out, HE6.out] at r5); try (have gz := blk_lt kg))
            refine hK.out _ _ ⟨(hB.trans x5), _, ((x5.block _ (blk_lt kg)).trans kg)⟩ (fun hHeld => ?_)
            clear hK K
            have hB := hB.trans x5
            have hW := zz0.trans hB
            have kg := (x5.block _ (blk_lt kg)).trans kg
            have own2 := own_ext own2 x5
            refine wpAnyH_take (i := 10) (oi := { dst := some 41, op := Op.move (Operand.tmp 51), type := 35, pos := "law.go:50", after := #[{ on := 9, ground := Ground.data }], guard := none }) (v := ?vv20_7_10) rfl (by kernel_rfl) (by kernel_rfl) (by kernel_rfl) (fun _ _ _ h => h) (Or.inl ⟨by rfl, ?yy20_7_10⟩) hHeld ?_
            case yy20_7_10 => (intro W hx; go_simp; try with_reducible rfl)
            simp only [Act.put, List.setIfInBounds_toArray, List.set_cons_zero, List.set_cons_succ]
            refine wpAnyH_take (i := 11) (oi := { dst := some 52, op := Op.extract (Operand.tmp 41) 0, type := 26, pos := "law.go:50", after := #[{ on := 10, ground := Ground.data }], guard := none }) (v := ?vv21_7_11) rfl (by kernel_rfl) (by kernel_rfl) (by kernel_rfl) (fun _ _ _ h => h) (Or.inl ⟨by rfl, ?yy21_7_11⟩) hHeld ?_
            case yy21_7_11 => (intro W hx; go_simp; try with_reducible rfl)
            simp only [Act.put, List.setIfInBounds_toArray, List.set_cons_zero, List.set_cons_succ]
            refine wpAnyH_take (i := 12) (oi := { dst := some 53, op := Op.extract (Operand.tmp 41) 1, type := 27, pos := "law.go:50", after := #[{ on := 10, ground := Ground.data }, { on := 14, ground := Ground.gcOnly Departure.lateStores }], guard := none }) (v := ?vv22_7_12) rfl (by kernel_rfl) (by kernel_rfl) (by kernel_rfl) (fun _ _ _ h => h) (Or.inl ⟨by rfl, ?yy22_7_12⟩) hHeld ?_
            case yy22_7_12 => (intro W hx; go_simp; try with_reducible rfl)
            simp only [Act.put, List.setIfInBounds_toArray, List.set_cons_zero, List.set_cons_succ]
            refine wpAnyH_ready (rs := [14]) (by kernel_rfl) (by simp) (AllReadyH.cons rfl (fun K hK => ?_) AllReadyH.nil)
            rw [if_pos (by rfl)]
            refine wp_strow (o := { dst := none, op := Op.store 26 (Operand.tmp 10) (Operand.tmp 52), type := 0, pos := "law.go:50", after := #[{ on := 13, ground := Ground.data }, { on := 11, ground := Ground.data }, { on := 9, ground := Ground.chain }, { on := 0, ground := Ground.phase }, { on := 1, ground := Ground.phase }, { on := 2, ground := Ground.phase }, { on := 3, ground := Ground.phase }, { on := 4, ground := Ground.phase }, { on := 5, ground := Ground.phase }, { on := 6, ground := Ground.phase }, { on := 7, ground := Ground.phase }, { on := 8, ground := Ground.phase }, { on := 9, ground := Ground.phase }, { on := 10, ground := Ground.phase }, { on := 11, ground := Ground.phase }, { on := 12, ground := Ground.textOnly Departure.lateStores }, { on := 13, ground := Ground.phase }], guard := none }) _ _ _ rfl kg rfl rfl (by kernel_rfl) rfl (by simp [Value.oneCell']) ?_
            intro wS ks xg
            simp only [Act.put]
            have hB := Ext.of_grown hB xg (fun k e => by cases e; exact gB)
            have hW := zz0.trans hB
            refine hK.out _ _ ⟨hB, _, ks⟩ (fun hHeld => ?_)
            clear hK K
            refine wpAnyH_take (i := 15) (oi := { dst := some 11, op := Op.assign (Operand.tmp 53), type := 27, pos := "law.go:50", after := #[{ on := 12, ground := Ground.data }, { on := 14, ground := Ground.chain }, { on := 0, ground := Ground.phase }, { on := 1, ground := Ground.phase }, { on := 2, ground := Ground.phase }, { on := 3, ground := Ground.phase }, { on := 4, ground := Ground.phase }, { on := 5, ground := Ground.phase }, { on := 6, ground := Ground.phase }, { on := 7, ground := Ground.phase }, { on := 8, ground := Ground.phase }, { on := 9, ground := Ground.phase }, { on := 10, ground := Ground.phase }, { on := 11, ground := Ground.phase }, { on := 12, ground := Ground.phase }, { on := 13, ground := Ground.phase }, { on := 14, ground := Ground.phase }], guard := none }) (v := ?vv23_7_15) rfl (by kernel_rfl) (by kernel_rfl) (by kernel_rfl) (fun _ _ _ h => h) (Or.inl ⟨by rfl, ?yy23_7_15⟩) hHeld ?_
            case yy23_7_15 => (intro W hx; go_simp; try with_reducible rfl)
            simp only [Act.put, List.setIfInBounds_toArray, List.set_cons_zero, List.set_cons_succ]
            refine wpAnyH_done (by kernel_rfl) ?_ _
            have zend := hW
            go_wp2
            go_meet
            case rel => exact ⟨⟨rfl, _, A5, c5, rfl, ks, by first | (refine r5.grown xg ?_; intro ad e h; have := fr5 ad e; simp at h; omega) | exact rd_k2 r5 xa xg gE⟩, zend⟩
        · have tok := True.intro
          go_simp
          obtain ⟨wL, hw⟩ : ∃ V, V = World.alloc wB7 (.cells #[.int .u8 0, .int .u8 0, .int .u8 0, .int .u8 0, .int .u8 0, .int .u8 0, .int .u32 0, .slice none 0 0] 26) := ⟨_, rfl⟩
          rw [← hw]
          have xa : Ext wB7 wL := by rw [hw]; exact (Ext.refl _).alloc _
          have kg : (World.heap wL)[(World.heap wB7).size]? = some (.cells #[.int .u8 0, .int .u8 0, .int .u8 0, .int .u8 0, .int .u8 0, .int .u8 0, .int .u32 0, .slice none 0 0] 26) := by rw [hw]; exact heap_alloc_new _ _
          clear hw
          obtain ⟨gA, hgA⟩ : ∃ q, q = (World.heap wB7).size := ⟨_, rfl⟩
          have gB : (World.heap wB7).size ≤ gA := by rw [hgA]; exact hB.size
          have gE := Nat.le_of_eq hgA.symm
          rw [← hgA] at kg ⊢
          clear hgA
          refine hK.out _ _ (hB.trans xa) (fun hHeld => ?_)
          clear hK K
          have hB := hB.trans xa
          have hW := zz0.trans hB
          refine wpAnyH_imp (S' := fun W => Ext wB7 W ∧ ∃ cs, (World.heap W)[gA]? = some (.cells cs 26 (0, 0))) (fun W h => h.1) _ _ _ _ ?_
          have hHeld := And.intro hB (Exists.intro _ kg)
          refine wpAnyH_ready (rs := [0]) (by kernel_rfl) (by simp) (AllReadyH.cons rfl (fun K hK => ?_) AllReadyH.nil)
          go_simp
          obtain ⟨wb, hw⟩ : ∃ V, V = World.alloc wL (.cells #[] 5) := ⟨_, rfl⟩
          rw [← hw]
          have xb : Ext wL wb := by rw [hw]; exact (Ext.refl _).alloc _
          have own0 := own_eq hw (own_lit (e := 5) (size := 1) #[] 0 rfl hB.size (le_max (by omega)) rfl)
          clear hw
          refine hK.out _ _ ⟨(hB.trans xb), _, ((xb.block _ (blk_lt kg)).trans kg)⟩ (fun hHeld => ?_)
          clear hK K
          have hB := hB.trans xb
          have hW := zz0.trans hB
          have ne_own0 : ∀ k, Value.ownBlock (.slice (some ⟨(World.heap wL).size, 0, none⟩) 0 0) = some k → k ≠ gA := fun k e => by have h2 := blk_lt kg; simp only [Value.ownBlock, Option.some.injEq] at e; omega
          have kg := (xb.block _ (blk_lt kg)).trans kg
          refine wpAnyH_ready (rs := [2]) (by kernel_rfl) (by simp) (AllReadyH.cons rfl (fun K hK => ?_) AllReadyH.nil)
          rw [if_pos (by rfl)]
          refine wp_app2 (o := { dst := some 44, op := Op.call { callee := Callee.builtin Builtin.append, args := #[Operand.tmp 42, Operand.tmp 43], argTypes := #[24, 24] }, type := 24, pos := "law.go:50", after := #[{ on := 0, ground := Ground.data }, { on := 1, ground := Ground.data }], guard := none }) el24 (.tmp 42) (.tmp 43) rfl own0 rfl (r3'.ext hW).shows rfl (u8s_one _) (le_max (by omega)) (by omega) rfl hB ?_; intro V1 wq own1 x9 hg9 hat9
          simp only [Act.put, List.setIfInBounds_toArray, List.set_cons_zero, List.set_cons_succ]
          have kg2 := (hg9.block _ (blk_lt kg) (fun e => ne_own0 _ e.symm rfl)).trans kg
          refine hK.out _ _ ⟨x9, _, kg2⟩ (fun hHeld => ?_)
          clear hK K
          have ne_own1 : ∀ k, Value.ownBlock V1 = some k → k ≠ gA := own_ne2 hat9 ne_own0 (blk_lt kg)
          have kg := kg2; clear kg2
          have hB := x9
          have hW := zz0.trans hB
          clear own0 hg9 hat9
          refine wpAnyH_ready (rs := [8]) (by kernel_rfl) (by simp) (AllReadyH.cons rfl (fun K hK => ?_) AllReadyH.nil)
          rw [if_pos (by rfl)]
          refine wp_app2 (o := { dst := some 50, op := Op.call { callee := Callee.builtin Builtin.append, args := #[Operand.tmp 44, Operand.tmp 49], argTypes := #[24, 24] }, type := 24, pos := "law.go:50", after := #[{ on := 2, ground := Ground.data }, { on := 7, ground := Ground.data }, { on := 2, ground := Ground.chain }], guard := none }) el24 (.tmp 44) (.tmp 49) rfl own1 rfl (hym.ext (v3.trans hW)).shows rfl (u8s_one _) (le_max (by omega)) (by omega) rfl hB ?_; intro V2 wr2 own2 x9 hg9 hat9
          simp only [Act.put, List.setIfInBounds_toArray, List.set_cons_zero, List.set_cons_succ]
          have kg2 := (hg9.block _ (blk_lt kg) (fun e => ne_own1 _ e.symm rfl)).trans kg
          refine hK.out _ _ ⟨x9, _, kg2⟩ (fun hHeld => ?_)
          clear hK K
          have ne_own2 : ∀ k, Value.ownBlock V2 = some k → k ≠ gA := own_ne2 hat9 ne_own1 (blk_lt kg)
          have kg := kg2; clear kg2
          have hB := x9
          have hW := zz0.trans hB
          clear own1 hg9 hat9
          obtain ⟨A4, c4, rfl, l4, m4, r4⟩ := back_own own2 HE1.out hbx
          refine wpAnyH_ready (rs := [9]) (by kernel_rfl) (by simp) (AllReadyH.cons rfl (fun K hK => ?_) AllReadyH.nil)
          go_simp
          go_wp2_with (go_at_call 14; (with_reducible refine (take_okF _ _ _ _ _ _ _ _ _ _ _ (by first | exact r4 | exact r4.ext xa) l4 m4 (by omega) HE2.out HE3.out).mono ?_); rintro e w5 ⟨A5, c5, rfl, l5, m5, x5, r5, fr5⟩; go_must (rw [HE4.out, HE5.out]); go_must (rw [HE5.out, HE6.out] at r5); try (have gz := blk_lt kg))
          refine hK.out _ _ ⟨(hB.trans x5), _, ((x5.block _ (blk_lt kg)).trans kg)⟩ (fun hHeld => ?_)
          clear hK K
          have hB := hB.trans x5
          have hW := zz0.trans hB
          have kg := (x5.block _ (blk_lt kg)).trans kg
          have own2 := own_ext own2 x5
          refine wpAnyH_take (i := 10) (oi := { dst := some 41, op := Op.move (Operand.tmp 51), type := 35, pos := "law.go:50", after := #[{ on := 9, ground := Ground.data }], guard := none }) (v := ?vv24_7_10) rfl (by kernel_rfl) (by kernel_rfl) (by kernel_rfl) (fun _ _ _ h => h) (Or.inl ⟨by rfl, ?yy24_7_10⟩) hHeld ?_
          case yy24_7_10 => (intro W hx; go_simp; try with_reducible rfl)
          simp only [Act.put, List.setIfInBounds_toArray, List.set_cons_zero, List.set_cons_succ]
          refine wpAnyH_take (i := 11) (oi := { dst := some 52, op := Op.extract (Operand.tmp 41) 0, type := 26, pos := "law.go:50", after := #[{ on := 10, ground := Ground.data }], guard := none }) (v := ?vv25_7_11) rfl (by kernel_rfl) (by kernel_rfl) (by kernel_rfl) (fun _ _ _ h => h) (Or.inl ⟨by rfl, ?yy25_7_11⟩) hHeld ?_
          case yy25_7_11 => (intro W hx; go_simp; try with_reducible rfl)
          simp only [Act.put, List.setIfInBounds_toArray, List.set_cons_zero, List.set_cons_succ]
          refine wpAnyH_take (i := 12) (oi := { dst := some 53, op := Op.extract (Operand.tmp 41) 1, type := 27, pos := "law.go:50", after := #[{ on := 10, ground := Ground.data }, { on := 14, ground := Ground.gcOnly Departure.lateStores }], guard := none }) (v := ?vv26_7_12) rfl (by kernel_rfl) (by kernel_rfl) (by kernel_rfl) (fun _ _ _ h => h) (Or.inl ⟨by rfl, ?yy26_7_12⟩) hHeld ?_
          case yy26_7_12 => (intro W hx; go_simp; try with_reducible rfl)
          simp only [Act.put, List.setIfInBounds_toArray, List.set_cons_zero, List.set_cons_succ]
          refine wpAnyH_ready (rs := [14]) (by kernel_rfl) (by simp) (AllReadyH.cons rfl (fun K hK => ?_) AllReadyH.nil)
          rw [if_pos (by rfl)]
          refine wp_strow (o := { dst := none, op := Op.store 26 (Operand.tmp 10) (Operand.tmp 52), type := 0, pos := "law.go:50", after := #[{ on := 13, ground := Ground.data }, { on := 11, ground := Ground.data }, { on := 9, ground := Ground.chain }, { on := 0, ground := Ground.phase }, { on := 1, ground := Ground.phase }, { on := 2, ground := Ground.phase }, { on := 3, ground := Ground.phase }, { on := 4, ground := Ground.phase }, { on := 5, ground := Ground.phase }, { on := 6, ground := Ground.phase }, { on := 7, ground := Ground.phase }, { on := 8, ground := Ground.phase }, { on := 9, ground := Ground.phase }, { on := 10, ground := Ground.phase }, { on := 11, ground := Ground.phase }, { on := 12, ground := Ground.textOnly Departure.lateStores }, { on := 13, ground := Ground.phase }], guard := none }) _ _ _ rfl kg rfl rfl (by kernel_rfl) rfl (by simp [Value.oneCell']) ?_
          intro wS ks xg
          simp only [Act.put]
          have hB := Ext.of_grown hB xg (fun k e => by cases e; exact gB)
          have hW := zz0.trans hB
          refine hK.out _ _ ⟨hB, _, ks⟩ (fun hHeld => ?_)
          clear hK K
          refine wpAnyH_take (i := 15) (oi := { dst := some 11, op := Op.assign (Operand.tmp 53), type := 27, pos := "law.go:50", after := #[{ on := 12, ground := Ground.data }, { on := 14, ground := Ground.chain }, { on := 0, ground := Ground.phase }, { on := 1, ground := Ground.phase }, { on := 2, ground := Ground.phase }, { on := 3, ground := Ground.phase }, { on := 4, ground := Ground.phase }, { on := 5, ground := Ground.phase }, { on := 6, ground := Ground.phase }, { on := 7, ground := Ground.phase }, { on := 8, ground := Ground.phase }, { on := 9, ground := Ground.phase }, { on := 10, ground := Ground.phase }, { on := 11, ground := Ground.phase }, { on := 12, ground := Ground.phase }, { on := 13, ground := Ground.phase }, { on := 14, ground := Ground.phase }], guard := none }) (v := ?vv27_7_15) rfl (by kernel_rfl) (by kernel_rfl) (by kernel_rfl) (fun _ _ _ h => h) (Or.inl ⟨by rfl, ?yy27_7_15⟩) hHeld ?_
          case yy27_7_15 => (intro W hx; go_simp; try with_reducible rfl)
          simp only [Act.put, List.setIfInBounds_toArray, List.set_cons_zero, List.set_cons_succ]
          refine wpAnyH_done (by kernel_rfl) ?_ _
          have zend := hW
          go_wp2
          go_meet
          case rel => exact ⟨⟨rfl, _, A5, c5, rfl, ks, by first | (refine r5.grown xg ?_; intro ad e h; have := fr5 ad e; simp at h; omega) | exact rd_k2 r5 xa xg gE⟩, zend⟩
      · have hmm : min m 20 = m := by omega
        rw [hmm] at hym hm2 HE1 hbx
        clear hmm
        refine wp_region_held_drew (S := Ext w3) (by kernel_rfl) ((Ext.refl _).drew) (fun hHeld => ?_)
        obtain ⟨wB7, hwD⟩ : ∃ V, V = World.drew w3 := ⟨_, rfl⟩
        rw [← hwD]
        clear hHeld
        have zz0 : Ext w3 wB7 := by rw [hwD]; exact (Ext.refl _).drew
        clear hwD
        refine wpAnyH_imp (S' := Ext wB7) (fun W h => Ext.trans zz0 h) _ _ _ _ ?_
        have hHeld := Ext.refl wB7
        have hB := Ext.refl wB7
        have hW := zz0
        refine wpAnyH_take (i := 1) (oi := { dst := some 43, op := Op.move (Operand.tmp 8), type := 24, pos := "law.go:50", after := #[], guard := none }) (v := ?vv29_7_1) rfl (by kernel_rfl) (by kernel_rfl) (by kernel_rfl) (fun _ _ _ h => h) (Or.inl ⟨by rfl, ?yy29_7_1⟩) hHeld ?_
        case yy29_7_1 => (intro W hx; go_simp; try with_reducible rfl)
        simp only [Act.put, List.setIfInBounds_toArray, List.set_cons_zero, List.set_cons_succ]
        refine wpAnyH_take (i := 3) (oi := { dst := some 45, op := Op.move (Operand.tmp 1), type := 24, pos := "law.go:50", after := #[], guard := none }) (v := ?vv30_7_3) rfl (by kernel_rfl) (by kernel_rfl) (by kernel_rfl) (fun _ _ _ h => h) (Or.inl ⟨by rfl, ?yy30_7_3⟩) hHeld ?_
        case yy30_7_3 => (intro W hx; go_simp; try with_reducible rfl)
        simp only [Act.put, List.setIfInBounds_toArray, List.set_cons_zero, List.set_cons_succ]
        refine wpAnyH_take (i := 4) (oi := { dst := some 46, op := Op.move (Operand.tmp 1), type := 24, pos := "law.go:50", after := #[], guard := none }) (v := ?vv31_7_4) rfl (by kernel_rfl) (by kernel_rfl) (by kernel_rfl) (fun _ _ _ h => h) (Or.inl ⟨by rfl, ?yy31_7_4⟩) hHeld ?_
        case yy31_7_4 => (intro W hx; go_simp; try with_reducible rfl)
        simp only [Act.put, List.setIfInBounds_toArray, List.set_cons_zero, List.set_cons_succ]
        refine wpAnyH_take (i := 5) (oi := { dst := some 47, op := Op.call { callee := Callee.builtin Builtin.len, args := #[Operand.tmp 46], argTypes := #[24] }, type := 3, pos := "law.go:50", after := #[{ on := 4, ground := Ground.data }], guard := none }) (v := ?vv32_7_5) rfl (by kernel_rfl) (by kernel_rfl) (by kernel_rfl) (fun _ _ _ h => h) (Or.inl ⟨by rfl, ?yy32_7_5⟩) hHeld ?_
        case yy32_7_5 => (intro W hx; go_simp; try with_reducible rfl)
        simp only [Act.put, List.setIfInBounds_toArray, List.set_cons_zero, List.set_cons_succ]
        refine wpAnyH_take (i := 6) (oi := { dst := some 48, op := Op.call { callee := Callee.builtin Builtin.min, args := #[Operand.tmp 47, Operand.const (Value.int IntKind.i64 20)], argTypes := #[3, 3] }, type := 3, pos := "law.go:50", after := #[{ on := 5, ground := Ground.data }], guard := none }) (v := ?vv33_7_6) rfl (by kernel_rfl) (by kernel_rfl) (by kernel_rfl) (fun _ _ _ h => h) (Or.inl ⟨by rfl, ?yy33_7_6⟩) hHeld ?_
        case yy33_7_6 => (intro W hx; go_simp; try with_reducible rfl)
        simp only [Act.put, List.setIfInBounds_toArray, List.set_cons_zero, List.set_cons_succ]
        refine wpAnyH_take (i := 7) (oi := { dst := some 49, op := Op.slice 24 (Operand.tmp 45) none (some (Operand.tmp 48)) none, type := 24, pos := "law.go:50", after := #[{ on := 3, ground := Ground.data }, { on := 6, ground := Ground.data }], guard := none }) (v := ?vv34_7_7) rfl (by kernel_rfl) (by kernel_rfl) (by kernel_rfl) (fun _ _ _ h => h) (Or.inl ⟨by rfl, ?yy34_7_7⟩) hHeld ?_
        case yy34_7_7 => (intro W hx; go_simp; try with_reducible rfl)
        simp only [Act.put, List.setIfInBounds_toArray, List.set_cons_zero, List.set_cons_succ]
        refine wpAnyH_ready (rs := [0, 13]) (by kernel_rfl) (by simp) (AllReadyH.cons rfl (fun K hK => ?_) (AllReadyH.cons rfl (fun K hK => ?_) AllReadyH.nil))
        · have tok := True.intro
          go_simp
          obtain ⟨wb, hw⟩ : ∃ V, V = World.alloc wB7 (.cells #[] 5) := ⟨_, rfl⟩
          rw [← hw]
          have xb : Ext wB7 wb := by rw [hw]; exact (Ext.refl _).alloc _
          have own0 := own_eq hw (own_lit (e := 5) (size := 1) #[] 0 rfl hB.size (le_max (by omega)) rfl)
          clear hw
          refine hK.out _ _ (hB.trans xb) (fun hHeld => ?_)
          clear hK K
          have hB := hB.trans xb
          have hW := zz0.trans hB
          refine wpAnyH_ready (rs := [2, 13]) (by kernel_rfl) (by simp) (AllReadyH.cons rfl (fun K hK => ?_) (AllReadyH.cons rfl (fun K hK => ?_) AllReadyH.nil))
          · have tok := True.intro
            rw [if_pos (by rfl)]
            refine wp_app2 (o := { dst := some 44, op := Op.call { callee := Callee.builtin Builtin.append, args := #[Operand.tmp 42, Operand.tmp 43], argTypes := #[24, 24] }, type := 24, pos := "law.go:50", after := #[{ on := 0, ground := Ground.data }, { on := 1, ground := Ground.data }], guard := none }) el24 (.tmp 42) (.tmp 43) rfl own0 rfl (r3'.ext hW).shows rfl (u8s_one _) (le_max (by omega)) (by omega) rfl hB ?_; intro V1 wq own1 x9 hg9 hat9
            simp only [Act.put, List.setIfInBounds_toArray, List.set_cons_zero, List.set_cons_succ]
            refine hK.out _ _ x9 (fun hHeld => ?_)
            clear hK K
            have hB := x9
            have hW := zz0.trans hB
            clear own0 hg9 hat9
            refine wpAnyH_ready (rs := [8, 13]) (by kernel_rfl) (by simp) (AllReadyH.cons rfl (fun K hK => ?_) (AllReadyH.cons rfl (fun K hK => ?_) AllReadyH.nil))
            · have tok := True.intro
              rw [if_pos (by rfl)]
              refine wp_app2 (o := { dst := some 50, op := Op.call { callee := Callee.builtin Builtin.append, args := #[Operand.tmp 44, Operand.tmp 49], argTypes := #[24, 24] }, type := 24, pos := "law.go:50", after := #[{ on := 2, ground := Ground.data }, { on := 7, ground := Ground.data }, { on := 2, ground := Ground.chain }], guard := none }) el24 (.tmp 44) (.tmp 49) rfl own1 rfl (hym.ext (v3.trans hW)).shows rfl (u8s_one _) (le_max (by omega)) (by omega) rfl hB ?_; intro V2 wr2 own2 x9 hg9 hat9
              simp only [Act.put, List.setIfInBounds_toArray, List.set_cons_zero, List.set_cons_succ]
              refine hK.out _ _ x9 (fun hHeld => ?_)
              clear hK K
              have hB := x9
              have hW := zz0.trans hB
              clear own1 hg9 hat9
              obtain ⟨A4, c4, rfl, l4, m4, r4⟩ := back_own own2 HE1.out hbx
              refine wpAnyH_ready (rs := [9, 13]) (by kernel_rfl) (by simp) (AllReadyH.cons rfl (fun K hK => ?_) (AllReadyH.cons rfl (fun K hK => ?_) AllReadyH.nil))
              · have tok := True.intro
                go_simp
                go_wp2_with (go_at_call 14; (with_reducible refine (take_okF _ _ _ _ _ _ _ _ _ _ _ (by first | exact r4 | exact r4.ext xa) l4 m4 (by omega) HE2.out HE3.out).mono ?_); rintro e w5 ⟨A5, c5, rfl, l5, m5, x5, r5, fr5⟩; go_must (rw [HE4.out, HE5.out]); go_must (rw [HE5.out, HE6.out] at r5); try (have gz := blk_lt kg))
                refine hK.out _ _ (hB.trans x5) (fun hHeld => ?_)
                clear hK K
                have hB := hB.trans x5
                have hW := zz0.trans hB
                have own2 := own_ext own2 x5
                refine wpAnyH_take (i := 10) (oi := { dst := some 41, op := Op.move (Operand.tmp 51), type := 35, pos := "law.go:50", after := #[{ on := 9, ground := Ground.data }], guard := none }) (v := ?vv35_7_10) rfl (by kernel_rfl) (by kernel_rfl) (by kernel_rfl) (fun _ _ _ h => h) (Or.inl ⟨by rfl, ?yy35_7_10⟩) hHeld ?_
                case yy35_7_10 => (intro W hx; go_simp; try with_reducible rfl)
                simp only [Act.put, List.setIfInBounds_toArray, List.set_cons_zero, List.set_cons_succ]
                refine wpAnyH_take (i := 11) (oi := { dst := some 52, op := Op.extract (Operand.tmp 41) 0, type := 26, pos := "law.go:50", after := #[{ on := 10, ground := Ground.data }], guard := none }) (v := ?vv36_7_11) rfl (by kernel_rfl) (by kernel_rfl) (by kernel_rfl) (fun _ _ _ h => h) (Or.inl ⟨by rfl, ?yy36_7_11⟩) hHeld ?_
                case yy36_7_11 => (intro W hx; go_simp; try with_reducible rfl)
                simp only [Act.put, List.setIfInBounds_toArray, List.set_cons_zero, List.set_cons_succ]
                refine wpAnyH_take (i := 12) (oi := { dst := some 53, op := Op.extract (Operand.tmp 41) 1, type := 27, pos := "law.go:50", after := #[{ on := 10, ground := Ground.data }, { on := 14, ground := Ground.gcOnly Departure.lateStores }], guard := none }) (v := ?vv37_7_12) rfl (by kernel_rfl) (by kernel_rfl) (by kernel_rfl) (fun _ _ _ h => h) (Or.inl ⟨by rfl, ?yy37_7_12⟩) hHeld ?_
                case yy37_7_12 => (intro W hx; go_simp; try with_reducible rfl)
                simp only [Act.put, List.setIfInBounds_toArray, List.set_cons_zero, List.set_cons_succ]
                refine wpAnyH_ready (rs := [13]) (by kernel_rfl) (by simp) (AllReadyH.cons rfl (fun K hK => ?_) AllReadyH.nil)
                go_simp
                obtain ⟨wL, hw⟩ : ∃ V, V = World.alloc w5 (.cells #[.int .u8 0, .int .u8 0, .int .u8 0, .int .u8 0, .int .u8 0, .int .u8 0, .int .u32 0, .slice none 0 0] 26) := ⟨_, rfl⟩
                rw [← hw]
                have xa : Ext w5 wL := by rw [hw]; exact (Ext.refl _).alloc _
                have kg : (World.heap wL)[(World.heap w5).size]? = some (.cells #[.int .u8 0, .int .u8 0, .int .u8 0, .int .u8 0, .int .u8 0, .int .u8 0, .int .u32 0, .slice none 0 0] 26) := by rw [hw]; exact heap_alloc_new _ _
                clear hw
                obtain ⟨gA, hgA⟩ : ∃ q, q = (World.heap w5).size := ⟨_, rfl⟩
                have ne_own2 : ∀ k, Value.ownBlock _ = some k → k ≠ gA := fun k e => by rw [hgA]; exact Nat.ne_of_lt (own2.lt k e).2
                have gB : (World.heap wB7).size ≤ gA := by rw [hgA]; exact hB.size
                have gE := Nat.le_of_eq hgA.symm
                rw [← hgA] at kg ⊢
                clear hgA
                refine hK.out _ _ (hB.trans xa) (fun hHeld => ?_)
                clear hK K
                have hB := hB.trans xa
                have hW := zz0.trans hB
                refine wpAnyH_imp (S' := fun W => Ext wB7 W ∧ ∃ cs, (World.heap W)[gA]? = some (.cells cs 26 (0, 0))) (fun W h => h.1) _ _ _ _ ?_
                have hHeld := And.intro hB (Exists.intro _ kg)
                have own2 := own_ext own2 xa
                refine wpAnyH_ready (rs := [14]) (by kernel_rfl) (by simp) (AllReadyH.cons rfl (fun K hK => ?_) AllReadyH.nil)
                rw [if_pos (by rfl)]
                refine wp_strow (o := { dst := none, op := Op.store 26 (Operand.tmp 10) (Operand.tmp 52), type := 0, pos := "law.go:50", after := #[{ on := 13, ground := Ground.data }, { on := 11, ground := Ground.data }, { on := 9, ground := Ground.chain }, { on := 0, ground := Ground.phase }, { on := 1, ground := Ground.phase }, { on := 2, ground := Ground.phase }, { on := 3, ground := Ground.phase }, { on := 4, ground := Ground.phase }, { on := 5, ground := Ground.phase }, { on := 6, ground := Ground.phase }, { on := 7, ground := Ground.phase }, { on := 8, ground := Ground.phase }, { on := 9, ground := Ground.phase }, { on := 10, ground := Ground.phase }, { on := 11, ground := Ground.phase }, { on := 12, ground := Ground.textOnly Departure.lateStores }, { on := 13, ground := Ground.phase }], guard := none }) _ _ _ rfl kg rfl rfl (by kernel_rfl) rfl (by simp [Value.oneCell']) ?_
                intro wS ks xg
                simp only [Act.put]
                have hB := Ext.of_grown hB xg (fun k e => by cases e; exact gB)
                have hW := zz0.trans hB
                refine hK.out _ _ ⟨hB, _, ks⟩ (fun hHeld => ?_)
                clear hK K
                refine wpAnyH_take (i := 15) (oi := { dst := some 11, op := Op.assign (Operand.tmp 53), type := 27, pos := "law.go:50", after := #[{ on := 12, ground := Ground.data }, { on := 14, ground := Ground.chain }, { on := 0, ground := Ground.phase }, { on := 1, ground := Ground.phase }, { on := 2, ground := Ground.phase }, { on := 3, ground := Ground.phase }, { on := 4, ground := Ground.phase }, { on := 5, ground := Ground.phase }, { on := 6, ground := Ground.phase }, { on := 7, ground := Ground.phase }, { on := 8, ground := Ground.phase }, { on := 9, ground := Ground.phase }, { on := 10, ground := Ground.phase }, { on := 11, ground := Ground.phase }, { on := 12, ground := Ground.phase }, { on := 13, ground := Ground.phase }, { on := 14, ground := Ground.phase }], guard := none }) (v := ?vv38_7_15) rfl (by kernel_rfl) (by kernel_rfl) (by kernel_rfl) (fun _ _ _ h => h) (Or.inl ⟨by rfl, ?yy38_7_15⟩) hHeld ?_
                case yy38_7_15 => (intro W hx; go_simp; try with_reducible rfl)
                simp only [Act.put, List.setIfInBounds_toArray, List.set_cons_zero, List.set_cons_succ]
                refine wpAnyH_done (by kernel_rfl) ?_ _
                have zend := hW
                go_wp2
                go_meet
                case rel => exact ⟨⟨rfl, _, A5, c5, rfl, ks, by first | (refine r5.grown xg ?_; intro ad e h; have := fr5 ad e; simp at h; omega) | exact rd_k2 r5 xa xg gE⟩, zend⟩
              · have tok := True.intro
                go_simp
                obtain ⟨wL, hw⟩ : ∃ V, V = World.alloc wr2 (.cells #[.int .u8 0, .int .u8 0, .int .u8 0, .int .u8 0, .int .u8 0, .int .u8 0, .int .u32 0, .slice none 0 0] 26) := ⟨_, rfl⟩
                rw [← hw]
                have xa : Ext wr2 wL := by rw [hw]; exact (Ext.refl _).alloc _
                have kg : (World.heap wL)[(World.heap wr2).size]? = some (.cells #[.int .u8 0, .int .u8 0, .int .u8 0, .int .u8 0, .int .u8 0, .int .u8 0, .int .u32 0, .slice none 0 0] 26) := by rw [hw]; exact heap_alloc_new _ _
                clear hw
                obtain ⟨gA, hgA⟩ : ∃ q, q = (World.heap wr2).size := ⟨_, rfl⟩
                have ne_own2 : ∀ k, Value.ownBlock _ = some k → k ≠ gA := fun k e => by rw [hgA]; exact Nat.ne_of_lt (own2.lt k e).2
                have gB : (World.heap wB7).size ≤ gA := by rw [hgA]; exact hB.size
                have gE := Nat.le_of_eq hgA.symm
                rw [← hgA] at kg ⊢
                clear hgA
                refine hK.out _ _ (hB.trans xa) (fun hHeld => ?_)
                clear hK K
                have hB := hB.trans xa
                have hW := zz0.trans hB
                refine wpAnyH_imp (S' := fun W => Ext wB7 W ∧ ∃ cs, (World.heap W)[gA]? = some (.cells cs 26 (0, 0))) (fun W h => h.1) _ _ _ _ ?_
                have hHeld := And.intro hB (Exists.intro _ kg)
                have own2 := own_ext own2 xa
                refine wpAnyH_ready (rs := [9]) (by kernel_rfl) (by simp) (AllReadyH.cons rfl (fun K hK => ?_) AllReadyH.nil)
                go_simp
                go_wp2_with (go_at_call 14; (with_reducible refine (take_okF _ _ _ _ _ _ _ _ _ _ _ (by first | exact r4 | exact r4.ext xa) l4 m4 (by omega) HE2.out HE3.out).mono ?_); rintro e w5 ⟨A5, c5, rfl, l5, m5, x5, r5, fr5⟩; go_must (rw [HE4.out, HE5.out]); go_must (rw [HE5.out, HE6.out] at r5); try (have gz := blk_lt kg))
                refine hK.out _ _ ⟨(hB.trans x5), _, ((x5.block _ (blk_lt kg)).trans kg)⟩ (fun hHeld => ?_)
                clear hK K
                have hB := hB.trans x5
                have hW := zz0.trans hB
                have kg := (x5.block _ (blk_lt kg)).trans kg
                have own2 := own_ext own2 x5
                refine wpAnyH_take (i := 10) (oi := { dst := some 41, op := Op.move (Operand.tmp 51), type := 35, pos := "law.go:50", after := #[{ on := 9, ground := Ground.data }], guard := none }) (v := ?vv39_7_10) rfl (by kernel_rfl) (by kernel_rfl) (by kernel_rfl) (fun _ _ _ h => h) (Or.inl ⟨by rfl, ?yy39_7_10⟩) hHeld ?_
                case yy39_7_10 => (intro W hx; go_simp; try with_reducible rfl)
                simp only [Act.put, List.setIfInBounds_toArray, List.set_cons_zero, List.set_cons_succ]
                refine wpAnyH_take (i := 11) (oi := { dst := some 52, op := Op.extract (Operand.tmp 41) 0, type := 26, pos := "law.go:50", after := #[{ on := 10, ground := Ground.data }], guard := none }) (v := ?vv40_7_11) rfl (by kernel_rfl) (by kernel_rfl) (by kernel_rfl) (fun _ _ _ h => h) (Or.inl ⟨by rfl, ?yy40_7_11⟩) hHeld ?_
                case yy40_7_11 => (intro W hx; go_simp; try with_reducible rfl)
                simp only [Act.put, List.setIfInBounds_toArray, List.set_cons_zero, List.set_cons_succ]
                refine wpAnyH_take (i := 12) (oi := { dst := some 53, op := Op.extract (Operand.tmp 41) 1, type := 27, pos := "law.go:50", after := #[{ on := 10, ground := Ground.data }, { on := 14, ground := Ground.gcOnly Departure.lateStores }], guard := none }) (v := ?vv41_7_12) rfl (by kernel_rfl) (by kernel_rfl) (by kernel_rfl) (fun _ _ _ h => h) (Or.inl ⟨by rfl, ?yy41_7_12⟩) hHeld ?_
                case yy41_7_12 => (intro W hx; go_simp; try with_reducible rfl)
                simp only [Act.put, List.setIfInBounds_toArray, List.set_cons_zero, List.set_cons_succ]
                refine wpAnyH_ready (rs := [14]) (by kernel_rfl) (by simp) (AllReadyH.cons rfl (fun K hK => ?_) AllReadyH.nil)
                rw [if_pos (by rfl)]
                refine wp_strow (o := { dst := none, op := Op.store 26 (Operand.tmp 10) (Operand.tmp 52), type := 0, pos := "law.go:50", after := #[{ on := 13, ground := Ground.data }, { on := 11, ground := Ground.data }, { on := 9, ground := Ground.chain }, { on := 0, ground := Ground.phase }, { on := 1, ground := Ground.phase }, { on := 2, ground := Ground.phase }, { on := 3, ground := Ground.phase }, { on := 4, ground := Ground.phase }, { on := 5, ground := Ground.phase }, { on := 6, ground := Ground.phase }, { on := 7, ground := Ground.phase }, { on := 8, ground := Ground.phase }, { on := 9, ground := Ground.phase }, { on := 10, ground := Ground.phase }, { on := 11, ground := Ground.phase }, { on := 12, ground := Ground.textOnly Departure.lateStores }, { on := 13, ground := Ground.phase }], guard := none }) _ _ _ rfl kg rfl rfl (by kernel_rfl) rfl (by simp [Value.oneCell']) ?_
                intro wS ks xg
                simp only [Act.put]
                have hB := Ext.of_grown hB xg (fun k e => by cases e; exact gB)
                have hW := zz0.trans hB
                refine hK.out _ _ ⟨hB, _, ks⟩ (fun hHeld => ?_)
                clear hK K
                refine wpAnyH_take (i := 15) (oi := { dst := some 11, op := Op.assign (Operand.tmp 53), type := 27, pos := "law.go:50", after := #[{ on := 12, ground := Ground.data }, { on := 14, ground := Ground.chain }, { on := 0, ground := Ground.phase }, { on := 1, ground := Ground.phase }, { on := 2, ground := Ground.phase }, { on := 3, ground := Ground.phase }, { on := 4, ground := Ground.phase }, { on := 5, ground := Ground.phase }, { on := 6, ground := Ground.phase }, { on := 7, ground := Ground.phase }, { on := 8, ground := Ground.phase }, { on := 9, ground := Ground.phase }, { on := 10, ground := Ground.phase }, { on := 11, ground := Ground.phase }, { on := 12, ground := Ground.phase }, { on := 13, ground := Ground.phase }, { on := 14, ground := Ground.phase }], guard := none }) (v := ?vv42_7_15) rfl (by kernel_rfl) (by kernel_rfl) (by kernel_rfl) (fun _ _ _ h => h) (Or.inl ⟨by rfl, ?yy42_7_15⟩) hHeld ?_
                case yy42_7_15 => (intro W hx; go_simp; try with_reducible rfl)
                simp only [Act.put, List.setIfInBounds_toArray, List.set_cons_zero, List.set_cons_succ]
                refine wpAnyH_done (by kernel_rfl) ?_ _
                have zend := hW
                go_wp2
                go_meet
                case rel => exact ⟨⟨rfl, _, A5, c5, rfl, ks, by first | (refine r5.grown xg ?_; intro ad e h; have := fr5 ad e; simp at h; omega) | exact rd_k2 r5 xa xg gE⟩, zend⟩
            · have tok := True.intro
              go_simp
              obtain ⟨wL, hw⟩ : ∃ V, V = World.alloc wq (.cells #[.int .u8 0, .int .u8 0, .int .u8 0, .int .u8 0, .int .u8 0, .int .u8 0, .int .u32 0, .slice none 0 0] 26) := ⟨_, rfl⟩
              rw [← hw]
              have xa : Ext wq wL := by rw [hw]; exact (Ext.refl _).alloc _
              have kg : (World.heap wL)[(World.heap wq).size]? = some (.cells #[.int .u8 0, .int .u8 0, .int .u8 0, .int .u8 0, .int .u8 0, .int .u8 0, .int .u32 0, .slice none 0 0] 26) := by rw [hw]; exact heap_alloc_new _ _
              clear hw
              obtain ⟨gA, hgA⟩ : ∃ q, q = (World.heap wq).size := ⟨_, rfl⟩
              have ne_own1 : ∀ k, Value.ownBlock _ = some k → k ≠ gA := fun k e => by rw [hgA]; exact Nat.ne_of_lt (own1.lt k e).2
              have gB : (World.heap wB7).size ≤ gA := by rw [hgA]; exact hB.size
              have gE := Nat.le_of_eq hgA.symm
              rw [← hgA] at kg ⊢
              clear hgA
              refine hK.out _ _ (hB.trans xa) (fun hHeld => ?_)
              clear hK K
              have hB := hB.trans xa
              have hW := zz0.trans hB
              refine wpAnyH_imp (S' := fun W => Ext wB7 W ∧ ∃ cs, (World.heap W)[gA]? = some (.cells cs 26 (0, 0))) (fun W h => h.1) _ _ _ _ ?_
              have hHeld := And.intro hB (Exists.intro _ kg)
              have own1 := own_ext own1 xa
              refine wpAnyH_ready (rs := [8]) (by kernel_rfl) (by simp) (AllReadyH.cons rfl (fun K hK => ?_) AllReadyH.nil)
              rw [if_pos (by rfl)]
              refine wp_app2 (o := { dst := some 50, op := Op.call { callee := Callee.builtin Builtin.append, args := #[Operand.tmp 44, Operand.tmp 49], argTypes := #[24, 24] }, type := 24, pos := "law.go:50", after := #[{ on := 2, ground := Ground.data }, { on := 7, ground := Ground.data }, { on := 2, ground := Ground.chain }], guard := none }) el24 (.tmp 44) (.tmp 49) rfl own1 rfl (hym.ext (v3.trans hW)).shows rfl (u8s_one _) (le_max (by omega)) (by omega) rfl hB ?_; intro V2 wr2 own2 x9 hg9 hat9
              simp only [Act.put, List.setIfInBounds_toArray, List.set_cons_zero, List.set_cons_succ]
              have kg2 := (hg9.block _ (blk_lt kg) (fun e => ne_own1 _ e.symm rfl)).trans kg
              refine hK.out _ _ ⟨x9, _, kg2⟩ (fun hHeld => ?_)
              clear hK K
              have ne_own2 : ∀ k, Value.ownBlock V2 = some k → k ≠ gA := own_ne2 hat9 ne_own1 (blk_lt kg)
              have kg := kg2; clear kg2
              have hB := x9
              have hW := zz0.trans hB
              clear own1 hg9 hat9
              obtain ⟨A4, c4, rfl, l4, m4, r4⟩ := back_own own2 HE1.out hbx
              refine wpAnyH_ready (rs := [9]) (by kernel_rfl) (by simp) (AllReadyH.cons rfl (fun K hK => ?_) AllReadyH.nil)
              go_simp
              go_wp2_with (go_at_call 14; (with_reducible refine (take_okF _ _ _ _ _ _ _ _ _ _ _ (by first | exact r4 | exact r4.ext xa) l4 m4 (by omega) HE2.out HE3.out).mono ?_); rintro e w5 ⟨A5, c5, rfl, l5, m5, x5, r5, fr5⟩; go_must (rw [HE4.out, HE5.out]); go_must (rw [HE5.out, HE6.out] at r5); try (have gz := blk_lt kg))
              refine hK.out _ _ ⟨(hB.trans x5), _, ((x5.block _ (blk_lt kg)).trans kg)⟩ (fun hHeld => ?_)
              clear hK K
              have hB := hB.trans x5
              have hW := zz0.trans hB
              have kg := (x5.block _ (blk_lt kg)).trans kg
              have own2 := own_ext own2 x5
              refine wpAnyH_take (i := 10) (oi := { dst := some 41, op := Op.move (Operand.tmp 51), type := 35, pos := "law.go:50", after := #[{ on := 9, ground := Ground.data }], guard := none }) (v := ?vv43_7_10) rfl (by kernel_rfl) (by kernel_rfl) (by kernel_rfl) (fun _ _ _ h => h) (Or.inl ⟨by rfl, ?yy43_7_10⟩) hHeld ?_
              case yy43_7_10 => (intro W hx; go_simp; try with_reducible rfl)
              simp only [Act.put, List.setIfInBounds_toArray, List.set_cons_zero, List.set_cons_succ]
              refine wpAnyH_take (i := 11) (oi := { dst := some 52, op := Op.extract (Operand.tmp 41) 0, type := 26, pos := "law.go:50", after := #[{ on := 10, ground := Ground.data }], guard := none }) (v := ?vv44_7_11) rfl (by kernel_rfl) (by kernel_rfl) (by kernel_rfl) (fun _ _ _ h => h) (Or.inl ⟨by rfl, ?yy44_7_11⟩) hHeld ?_
              case yy44_7_11 => (intro W hx; go_simp; try with_reducible rfl)
              simp only [Act.put, List.setIfInBounds_toArray, List.set_cons_zero, List.set_cons_succ]
              refine wpAnyH_take (i := 12) (oi := { dst := some 53, op := Op.extract (Operand.tmp 41) 1, type := 27, pos := "law.go:50", after := #[{ on := 10, ground := Ground.data }, { on := 14, ground := Ground.gcOnly Departure.lateStores }], guard := none }) (v := ?vv45_7_12) rfl (by kernel_rfl) (by kernel_rfl) (by kernel_rfl) (fun _ _ _ h => h) (Or.inl ⟨by rfl, ?yy45_7_12⟩) hHeld ?_
              case yy45_7_12 => (intro W hx; go_simp; try with_reducible rfl)
              simp only [Act.put, List.setIfInBounds_toArray, List.set_cons_zero, List.set_cons_succ]
              refine wpAnyH_ready (rs := [14]) (by kernel_rfl) (by simp) (AllReadyH.cons rfl (fun K hK => ?_) AllReadyH.nil)
              rw [if_pos (by rfl)]
              refine wp_strow (o := { dst := none, op := Op.store 26 (Operand.tmp 10) (Operand.tmp 52), type := 0, pos := "law.go:50", after := #[{ on := 13, ground := Ground.data }, { on := 11, ground := Ground.data }, { on := 9, ground := Ground.chain }, { on := 0, ground := Ground.phase }, { on := 1, ground := Ground.phase }, { on := 2, ground := Ground.phase }, { on := 3, ground := Ground.phase }, { on := 4, ground := Ground.phase }, { on := 5, ground := Ground.phase }, { on := 6, ground := Ground.phase }, { on := 7, ground := Ground.phase }, { on := 8, ground := Ground.phase }, { on := 9, ground := Ground.phase }, { on := 10, ground := Ground.phase }, { on := 11, ground := Ground.phase }, { on := 12, ground := Ground.textOnly Departure.lateStores }, { on := 13, ground := Ground.phase }], guard := none }) _ _ _ rfl kg rfl rfl (by kernel_rfl) rfl (by simp [Value.oneCell']) ?_
              intro wS ks xg
              simp only [Act.put]
              have hB := Ext.of_grown hB xg (fun k e => by cases e; exact gB)
              have hW := zz0.trans hB
              refine hK.out _ _ ⟨hB, _, ks⟩ (fun hHeld => ?_)
              clear hK K
              refine wpAnyH_take (i := 15) (oi := { dst := some 11, op := Op.assign (Operand.tmp 53), type := 27, pos := "law.go:50", after := #[{ on := 12, ground := Ground.data }, { on := 14, ground := Ground.chain }, { on := 0, ground := Ground.phase }, { on := 1, ground := Ground.phase }, { on := 2, ground := Ground.phase }, { on := 3, ground := Ground.phase }, { on := 4, ground := Ground.phase }, { on := 5, ground := Ground.phase }, { on := 6, ground := Ground.phase }, { on := 7, ground := Ground.phase }, { on := 8, ground := Ground.phase }, { on := 9, ground := Ground.phase }, { on := 10, ground := Ground.phase }, { on := 11, ground := Ground.phase }, { on := 12, ground := Ground.phase }, { on := 13, ground := Ground.phase }, { on := 14, ground := Ground.phase }], guard := none }) (v := ?vv46_7_15) rfl (by kernel_rfl) (by kernel_rfl) (by kernel_rfl) (fun _ _ _ h => h) (Or.inl ⟨by rfl, ?yy46_7_15⟩) hHeld ?_
              case yy46_7_15 => (intro W hx; go_simp; try with_reducible rfl)
              simp only [Act.put, List.setIfInBounds_toArray, List.set_cons_zero, List.set_cons_succ]
              refine wpAnyH_done (by kernel_rfl) ?_ _
              have zend := hW
              go_wp2
              go_meet
              case rel => exact ⟨⟨rfl, _, A5, c5, rfl, ks, by first | (refine r5.grown xg ?_; intro ad e h; have := fr5 ad e; simp at h; omega) | exact rd_k2 r5 xa xg gE⟩, zend⟩
          · have tok := True.intro
            go_simp
            obtain ⟨wL, hw⟩ : ∃ V, V = World.alloc wb (.cells #[.int .u8 0, .int .u8 0, .int .u8 0, .int .u8 0, .int .u8 0, .int .u8 0, .int .u32 0, .slice none 0 0] 26) := ⟨_, rfl⟩
            rw [← hw]
            have xa : Ext wb wL := by rw [hw]; exact (Ext.refl _).alloc _
            have kg : (World.heap wL)[(World.heap wb).size]? = some (.cells #[.int .u8 0, .int .u8 0, .int .u8 0, .int .u8 0, .int .u8 0, .int .u8 0, .int .u32 0, .slice none 0 0] 26) := by rw [hw]; exact heap_alloc_new _ _
            clear hw
            obtain ⟨gA, hgA⟩ : ∃ q, q = (World.heap wb).size := ⟨_, rfl⟩
            have ne_own0 : ∀ k, Value.ownBlock _ = some k → k ≠ gA := fun k e => by rw [hgA]; exact Nat.ne_of_lt (own0.lt k e).2
            have gB : (World.heap wB7).size ≤ gA := by rw [hgA]; exact hB.size
            have gE := Nat.le_of_eq hgA.symm
            rw [← hgA] at kg ⊢
            clear hgA
            refine hK.out _ _ (hB.trans xa) (fun hHeld => ?_)
            clear hK K
            have hB := hB.trans xa
            have hW := zz0.trans hB
            refine wpAnyH_imp (S' := fun W => Ext wB7 W ∧ ∃ cs, (World.heap W)[gA]? = some (.cells cs 26 (0, 0))) (fun W h => h.1) _ _ _ _ ?_
            have hHeld := And.intro hB (Exists.intro _ kg)
            have own0 := own_ext own0 xa
            refine wpAnyH_ready (rs := [2]) (by kernel_rfl) (by simp) (AllReadyH.cons rfl (fun K hK => ?_) AllReadyH.nil)
            rw [if_pos (by rfl)]
            refine wp_app2 (o := { dst := some 44, op := Op.call { callee := Callee.builtin Builtin.append, args := #[Operand.tmp 42, Operand.tmp 43], argTypes := #[24, 24] }, type := 24, pos := "law.go:50", after := #[{ on := 0, ground := Ground.data }, { on := 1, ground := Ground.data }], guard := none }) el24 (.tmp 42) (.tmp 43) rfl own0 rfl (r3'.ext hW).shows rfl (u8s_one _) (le_max (by omega)) (by omega) rfl hB ?_; intro V1 wq own1 x9 hg9 hat9
            simp only [Act.put, List.setIfInBounds_toArray, List.set_cons_zero, List.set_cons_succ]
            have kg2 := (hg9.block _ (blk_lt kg) (fun e => ne_own0 _ e.symm rfl)).trans kg
            refine hK.out _ _ ⟨x9, _, kg2⟩ (fun hHeld => ?_)
            clear hK K
            have ne_own1 : ∀ k, Value.ownBlock V1 = some k → k ≠ gA := own_ne2 hat9 ne_own0 (blk_lt kg)
            have kg := kg2; clear kg2
            have hB := x9
            have hW := zz0.trans hB
            clear own0 hg9 hat9
            refine wpAnyH_ready (rs := [8]) (by kernel_rfl) (by simp) (AllReadyH.cons rfl (fun K hK => ?_) AllReadyH.nil)
            rw [if_pos (by rfl)]
            refine wp_app2 (o := { dst := some 50, op := Op.call { callee := Callee.builtin Builtin.append, args := #[Operand.tmp 44, Operand.tmp 49], argTypes := #[24, 24] }, type := 24, pos := "law.go:50", after := #[{ on := 2, ground := Ground.data }, { on := 7, ground := Ground.data }, { on := 2, ground := Ground.chain }], guard := none }) el24 (.tmp 44) (.tmp 49) rfl own1 rfl (hym.ext (v3.trans hW)).shows rfl (u8s_one _) (le_max (by omega)) (by omega) rfl hB ?_; intro V2 wr2 own2 x9 hg9 hat9
            simp only [Act.put, List.setIfInBounds_toArray, List.set_cons_zero, List.set_cons_succ]
            have kg2 := (hg9.block _ (blk_lt kg) (fun e => ne_own1 _ e.symm rfl)).trans kg
            refine hK.out _ _ ⟨x9, _, kg2⟩ (fun hHeld => ?_)
            clear hK K
            have ne_own2 : ∀ k, Value.ownBlock V2 = some k → k ≠ gA := own_ne2 hat9 ne_own1 (blk_lt kg)
            have kg := kg2; clear kg2
            have hB := x9
            have hW := zz0.trans hB
            clear own1 hg9 hat9
            obtain ⟨A4, c4, rfl, l4, m4, r4⟩ := back_own own2 HE1.out hbx
            refine wpAnyH_ready (rs := [9]) (by kernel_rfl) (by simp) (AllReadyH.cons rfl (fun K hK => ?_) AllReadyH.nil)
            go_simp
            go_wp2_with (go_at_call 14; (with_reducible refine (take_okF _ _ _ _ _ _ _ _ _ _ _ (by first | exact r4 | exact r4.ext xa) l4 m4 (by omega) HE2.out HE3.out).mono ?_); rintro e w5 ⟨A5, c5, rfl, l5, m5, x5, r5, fr5⟩; go_must (rw [HE4.out, HE5.out]); go_must (rw [HE5.out, HE6.out] at r5); try (have gz := blk_lt kg))
            refine hK.out _ _ ⟨(hB.trans x5), _, ((x5.block _ (blk_lt kg)).trans kg)⟩ (fun hHeld => ?_)
            clear hK K
            have hB := hB.trans x5
            have hW := zz0.trans hB
            have kg := (x5.block _ (blk_lt kg)).trans kg
            have own2 := own_ext own2 x5
            refine wpAnyH_take (i := 10) (oi := { dst := some 41, op := Op.move (Operand.tmp 51), type := 35, pos := "law.go:50", after := #[{ on := 9, ground := Ground.data }], guard := none }) (v := ?vv47_7_10) rfl (by kernel_rfl) (by kernel_rfl) (by kernel_rfl) (fun _ _ _ h => h) (Or.inl ⟨by rfl, ?yy47_7_10⟩) hHeld ?_
            case yy47_7_10 => (intro W hx; go_simp; try with_reducible rfl)
            simp only [Act.put, List.setIfInBounds_toArray, List.set_cons_zero, List.set_cons_succ]
            refine wpAnyH_take (i := 11) (oi := { dst := some 52, op := Op.extract (Operand.tmp 41) 0, type := 26, pos := "law.go:50", after := #[{ on := 10, ground := Ground.data }], guard := none }) (v := ?vv48_7_11) rfl (by kernel_rfl) (by kernel_rfl) (by kernel_rfl) (fun _ _ _ h => h) (Or.inl ⟨by rfl, ?yy48_7_11⟩) hHeld ?_
            case yy48_7_11 => (intro W hx; go_simp; try with_reducible rfl)
            simp only [Act.put, List.setIfInBounds_toArray, List.set_cons_zero, List.set_cons_succ]
            refine wpAnyH_take (i := 12) (oi := { dst := some 53, op := Op.extract (Operand.tmp 41) 1, type := 27, pos := "law.go:50", after := #[{ on := 10, ground := Ground.data }, { on := 14, ground := Ground.gcOnly Departure.lateStores }], guard := none }) (v := ?vv49_7_12) rfl (by kernel_rfl) (by kernel_rfl) (by kernel_rfl) (fun _ _ _ h => h) (Or.inl ⟨by rfl, ?yy49_7_12⟩) hHeld ?_
            case yy49_7_12 => (intro W hx; go_simp; try with_reducible rfl)
            simp only [Act.put, List.setIfInBounds_toArray, List.set_cons_zero, List.set_cons_succ]
            refine wpAnyH_ready (rs := [14]) (by kernel_rfl) (by simp) (AllReadyH.cons rfl (fun K hK => ?_) AllReadyH.nil)
            rw [if_pos (by rfl)]
            refine wp_strow (o := { dst := none, op := Op.store 26 (Operand.tmp 10) (Operand.tmp 52), type := 0, pos := "law.go:50", after := #[{ on := 13, ground := Ground.data }, { on := 11, ground := Ground.data }, { on := 9, ground := Ground.chain }, { on := 0, ground := Ground.phase }, { on := 1, ground := Ground.phase }, { on := 2, ground := Ground.phase }, { on := 3, ground := Ground.phase }, { on := 4, ground := Ground.phase }, { on := 5, ground := Ground.phase }, { on := 6, ground := Ground.phase }, { on := 7, ground := Ground.phase }, { on := 8, ground := Ground.phase }, { on := 9, ground := Ground.phase }, { on := 10, ground := Ground.phase }, { on := 11, ground := Ground.phase }, { on := 12, ground := Ground.textOnly Departure.lateStores }, { on := 13, ground := Ground.phase }], guard := none }) _ _ _ rfl kg rfl rfl (by kernel_rfl) rfl (by simp [Value.oneCell']) ?_
            intro wS ks xg
            simp only [Act.put]
            have hB := Ext.of_grown hB xg (fun k e => by cases e; exact gB)
            have hW := zz0.trans hB
            refine hK.out _ _ ⟨hB, _, ks⟩ (fun hHeld => ?_)
            clear hK K
            refine wpAnyH_take (i := 15) (oi := { dst := some 11, op := Op.assign (Operand.tmp 53), type := 27, pos := "law.go:50", after := #[{ on := 12, ground := Ground.data }, { on := 14, ground := Ground.chain }, { on := 0, ground := Ground.phase }, { on := 1, ground := Ground.phase }, { on := 2, ground := Ground.phase }, { on := 3, ground := Ground.phase }, { on := 4, ground := Ground.phase }, { on := 5, ground := Ground.phase }, { on := 6, ground := Ground.phase }, { on := 7, ground := Ground.phase }, { on := 8, ground := Ground.phase }, { on := 9, ground := Ground.phase }, { on := 10, ground := Ground.phase }, { on := 11, ground := Ground.phase }, { on := 12, ground := Ground.phase }, { on := 13, ground := Ground.phase }, { on := 14, ground := Ground.phase }], guard := none }) (v := ?vv50_7_15) rfl (by kernel_rfl) (by kernel_rfl) (by kernel_rfl) (fun _ _ _ h => h) (Or.inl ⟨by rfl, ?yy50_7_15⟩) hHeld ?_
            case yy50_7_15 => (intro W hx; go_simp; try with_reducible rfl)
            simp only [Act.put, List.setIfInBounds_toArray, List.set_cons_zero, List.set_cons_succ]
            refine wpAnyH_done (by kernel_rfl) ?_ _
            have zend := hW
            go_wp2
            go_meet
            case rel => exact ⟨⟨rfl, _, A5, c5, rfl, ks, by first | (refine r5.grown xg ?_; intro ad e h; have := fr5 ad e; simp at h; omega) | exact rd_k2 r5 xa xg gE⟩, zend⟩
        · have tok := True.intro
          go_simp
          obtain ⟨wL, hw⟩ : ∃ V, V = World.alloc wB7 (.cells #[.int .u8 0, .int .u8 0, .int .u8 0, .int .u8 0, .int .u8 0, .int .u8 0, .int .u32 0, .slice none 0 0] 26) := ⟨_, rfl⟩
          rw [← hw]
          have xa : Ext wB7 wL := by rw [hw]; exact (Ext.refl _).alloc _
          have kg : (World.heap wL)[(World.heap wB7).size]? = some (.cells #[.int .u8 0, .int .u8 0, .int .u8 0, .int .u8 0, .int .u8 0, .int .u8 0, .int .u32 0, .slice none 0 0] 26) := by rw [hw]; exact heap_alloc_new _ _
          clear hw
          obtain ⟨gA, hgA⟩ : ∃ q, q = (World.heap wB7).size := ⟨_, rfl⟩
          have gB : (World.heap wB7).size ≤ gA := by rw [hgA]; exact hB.size
          have gE := Nat.le_of_eq hgA.symm
          rw [← hgA] at kg ⊢
          clear hgA
          refine hK.out _ _ (hB.trans xa) (fun hHeld => ?_)
          clear hK K
          have hB := hB.trans xa
          have hW := zz0.trans hB
          refine wpAnyH_imp (S' := fun W => Ext wB7 W ∧ ∃ cs, (World.heap W)[gA]? = some (.cells cs 26 (0, 0))) (fun W h => h.1) _ _ _ _ ?_
          have hHeld := And.intro hB (Exists.intro _ kg)
          refine wpAnyH_ready (rs := [0]) (by kernel_rfl) (by simp) (AllReadyH.cons rfl (fun K hK => ?_) AllReadyH.nil)
          go_simp
          obtain ⟨wb, hw⟩ : ∃ V, V = World.alloc wL (.cells #[] 5) := ⟨_, rfl⟩
          rw [← hw]
          have xb : Ext wL wb := by rw [hw]; exact (Ext.refl _).alloc _
          have own0 := own_eq hw (own_lit (e := 5) (size := 1) #[] 0 rfl hB.size (le_max (by omega)) rfl)
          clear hw
          refine hK.out _ _ ⟨(hB.trans xb), _, ((xb.block _ (blk_lt kg)).trans kg)⟩ (fun hHeld => ?_)
          clear hK K
          have hB := hB.trans xb
          have hW := zz0.trans hB
          have ne_own0 : ∀ k, Value.ownBlock (.slice (some ⟨(World.heap wL).size, 0, none⟩) 0 0) = some k → k ≠ gA := fun k e => by have h2 := blk_lt kg; simp only [Value.ownBlock, Option.some.injEq] at e; omega
          have kg := (xb.block _ (blk_lt kg)).trans kg
          refine wpAnyH_ready (rs := [2]) (by kernel_rfl) (by simp) (AllReadyH.cons rfl (fun K hK => ?_) AllReadyH.nil)
          rw [if_pos (by rfl)]
          refine wp_app2 (o := { dst := some 44, op := Op.call { callee := Callee.builtin Builtin.append, args := #[Operand.tmp 42, Operand.tmp 43], argTypes := #[24, 24] }, type := 24, pos := "law.go:50", after := #[{ on := 0, ground := Ground.data }, { on := 1, ground := Ground.data }], guard := none }) el24 (.tmp 42) (.tmp 43) rfl own0 rfl (r3'.ext hW).shows rfl (u8s_one _) (le_max (by omega)) (by omega) rfl hB ?_; intro V1 wq own1 x9 hg9 hat9
          simp only [Act.put, List.setIfInBounds_toArray, List.set_cons_zero, List.set_cons_succ]
          have kg2 := (hg9.block _ (blk_lt kg) (fun e => ne_own0 _ e.symm rfl)).trans kg
          refine hK.out _ _ ⟨x9, _, kg2⟩ (fun hHeld => ?_)
          clear hK K
          have ne_own1 : ∀ k, Value.ownBlock V1 = some k → k ≠ gA := own_ne2 hat9 ne_own0 (blk_lt kg)
          have kg := kg2; clear kg2
          have hB := x9
          have hW := zz0.trans hB
          clear own0 hg9 hat9
          refine wpAnyH_ready (rs := [8]) (by kernel_rfl) (by simp) (AllReadyH.cons rfl (fun K hK => ?_) AllReadyH.nil)
          rw [if_pos (by rfl)]
          refine wp_app2 (o := { dst := some 50, op := Op.call { callee := Callee.builtin Builtin.append, args := #[Operand.tmp 44, Operand.tmp 49], argTypes := #[24, 24] }, type := 24, pos := "law.go:50", after := #[{ on := 2, ground := Ground.data }, { on := 7, ground := Ground.data }, { on := 2, ground := Ground.chain }], guard := none }) el24 (.tmp 44) (.tmp 49) rfl own1 rfl (hym.ext (v3.trans hW)).shows rfl (u8s_one _) (le_max (by omega)) (by omega) rfl hB ?_; intro V2 wr2 own2 x9 hg9 hat9
          simp only [Act.put, List.setIfInBounds_toArray, List.set_cons_zero, List.set_cons_succ]
          have kg2 := (hg9.block _ (blk_lt kg) (fun e => ne_own1 _ e.symm rfl)).trans kg
          refine hK.out _ _ ⟨x9, _, kg2⟩ (fun hHeld => ?_)
          clear hK K
          have ne_own2 : ∀ k, Value.ownBlock V2 = some k → k ≠ gA := own_ne2 hat9 ne_own1 (blk_lt kg)
          have kg := kg2; clear kg2
          have hB := x9
          have hW := zz0.trans hB
          clear own1 hg9 hat9
          obtain ⟨A4, c4, rfl, l4, m4, r4⟩ := back_own own2 HE1.out hbx
          refine wpAnyH_ready (rs := [9]) (by kernel_rfl) (by simp) (AllReadyH.cons rfl (fun K hK => ?_) AllReadyH.nil)
          go_simp
          go_wp2_with (go_at_call 14; (with_reducible refine (take_okF _ _ _ _ _ _ _ _ _ _ _ (by first | exact r4 | exact r4.ext xa) l4 m4 (by omega) HE2.out HE3.out).mono ?_); rintro e w5 ⟨A5, c5, rfl, l5, m5, x5, r5, fr5⟩; go_must (rw [HE4.out, HE5.out]); go_must (rw [HE5.out, HE6.out] at r5); try (have gz := blk_lt kg))
          refine hK.out _ _ ⟨(hB.trans x5), _, ((x5.block _ (blk_lt kg)).trans kg)⟩ (fun hHeld => ?_)
          clear hK K
          have hB := hB.trans x5
          have hW := zz0.trans hB
          have kg := (x5.block _ (blk_lt kg)).trans kg
          have own2 := own_ext own2 x5
          refine wpAnyH_take (i := 10) (oi := { dst := some 41, op := Op.move (Operand.tmp 51), type := 35, pos := "law.go:50", after := #[{ on := 9, ground := Ground.data }], guard := none }) (v := ?vv51_7_10) rfl (by kernel_rfl) (by kernel_rfl) (by kernel_rfl) (fun _ _ _ h => h) (Or.inl ⟨by rfl, ?yy51_7_10⟩) hHeld ?_
          case yy51_7_10 => (intro W hx; go_simp; try with_reducible rfl)
          simp only [Act.put, List.setIfInBounds_toArray, List.set_cons_zero, List.set_cons_succ]
          refine wpAnyH_take (i := 11) (oi := { dst := some 52, op := Op.extract (Operand.tmp 41) 0, type := 26, pos := "law.go:50", after := #[{ on := 10, ground := Ground.data }], guard := none }) (v := ?vv52_7_11) rfl (by kernel_rfl) (by kernel_rfl) (by kernel_rfl) (fun _ _ _ h => h) (Or.inl ⟨by rfl, ?yy52_7_11⟩) hHeld ?_
          case yy52_7_11 => (intro W hx; go_simp; try with_reducible rfl)
          simp only [Act.put, List.setIfInBounds_toArray, List.set_cons_zero, List.set_cons_succ]
          refine wpAnyH_take (i := 12) (oi := { dst := some 53, op := Op.extract (Operand.tmp 41) 1, type := 27, pos := "law.go:50", after := #[{ on := 10, ground := Ground.data }, { on := 14, ground := Ground.gcOnly Departure.lateStores }], guard := none }) (v := ?vv53_7_12) rfl (by kernel_rfl) (by kernel_rfl) (by kernel_rfl) (fun _ _ _ h => h) (Or.inl ⟨by rfl, ?yy53_7_12⟩) hHeld ?_
          case yy53_7_12 => (intro W hx; go_simp; try with_reducible rfl)
          simp only [Act.put, List.setIfInBounds_toArray, List.set_cons_zero, List.set_cons_succ]
          refine wpAnyH_ready (rs := [14]) (by kernel_rfl) (by simp) (AllReadyH.cons rfl (fun K hK => ?_) AllReadyH.nil)
          rw [if_pos (by rfl)]
          refine wp_strow (o := { dst := none, op := Op.store 26 (Operand.tmp 10) (Operand.tmp 52), type := 0, pos := "law.go:50", after := #[{ on := 13, ground := Ground.data }, { on := 11, ground := Ground.data }, { on := 9, ground := Ground.chain }, { on := 0, ground := Ground.phase }, { on := 1, ground := Ground.phase }, { on := 2, ground := Ground.phase }, { on := 3, ground := Ground.phase }, { on := 4, ground := Ground.phase }, { on := 5, ground := Ground.phase }, { on := 6, ground := Ground.phase }, { on := 7, ground := Ground.phase }, { on := 8, ground := Ground.phase }, { on := 9, ground := Ground.phase }, { on := 10, ground := Ground.phase }, { on := 11, ground := Ground.phase }, { on := 12, ground := Ground.textOnly Departure.lateStores }, { on := 13, ground := Ground.phase }], guard := none }) _ _ _ rfl kg rfl rfl (by kernel_rfl) rfl (by simp [Value.oneCell']) ?_
          intro wS ks xg
          simp only [Act.put]
          have hB := Ext.of_grown hB xg (fun k e => by cases e; exact gB)
          have hW := zz0.trans hB
          refine hK.out _ _ ⟨hB, _, ks⟩ (fun hHeld => ?_)
          clear hK K
          refine wpAnyH_take (i := 15) (oi := { dst := some 11, op := Op.assign (Operand.tmp 53), type := 27, pos := "law.go:50", after := #[{ on := 12, ground := Ground.data }, { on := 14, ground := Ground.chain }, { on := 0, ground := Ground.phase }, { on := 1, ground := Ground.phase }, { on := 2, ground := Ground.phase }, { on := 3, ground := Ground.phase }, { on := 4, ground := Ground.phase }, { on := 5, ground := Ground.phase }, { on := 6, ground := Ground.phase }, { on := 7, ground := Ground.phase }, { on := 8, ground := Ground.phase }, { on := 9, ground := Ground.phase }, { on := 10, ground := Ground.phase }, { on := 11, ground := Ground.phase }, { on := 12, ground := Ground.phase }, { on := 13, ground := Ground.phase }, { on := 14, ground := Ground.phase }], guard := none }) (v := ?vv54_7_15) rfl (by kernel_rfl) (by kernel_rfl) (by kernel_rfl) (fun _ _ _ h => h) (Or.inl ⟨by rfl, ?yy54_7_15⟩) hHeld ?_
          case yy54_7_15 => (intro W hx; go_simp; try with_reducible rfl)
          simp only [Act.put, List.setIfInBounds_toArray, List.set_cons_zero, List.set_cons_succ]
          refine wpAnyH_done (by kernel_rfl) ?_ _
          have zend := hW
          go_wp2
          go_meet
          case rel => exact ⟨⟨rfl, _, A5, c5, rfl, ks, by first | (refine r5.grown xg ?_; intro ad e h; have := fr5 ad e; simp at h; omega) | exact rd_k2 r5 xa xg gE⟩, zend⟩
    case rest =>
      obtain ⟨⟨rfl, g, A5, c5, rfl, K5, r5⟩, xc⟩ := hcut
      obtain ⟨wA, rfl⟩ : ∃ z : World, z = wc := ⟨_, rfl⟩
      have KA := (xc.block _ (blk_lt K3)).trans K3
      have rA := (r3'.ext xc).take (k := ka) (by omega)
      have kc : (ka : Int) ≤ c3 := by omega
      have k0 : (0 : Int) ≤ ka := by omega
      have hkc : ka ≤ c3 := by omega
      have hk100 : ka ≤ 100 := by omega
      go_upto_region 9 with (go_at_call 14; (with_reducible refine (take_err _ _ _ _ _ _ rA hkc m3 hk100 HC.out).mono ?_); rintro e w6 ⟨rfl, x6⟩)
      obtain ⟨W6, hW6⟩ : ∃ V, V = w6.alloc (.cells #[.int .u8 0, .int .u8 0, .int .u8 0, .int .u8 0, .int .u8 0, .int .u8 0, .int .u32 0, .slice none 0 0] 26) := ⟨_, rfl⟩
      rw [← hW6]
      have x7 : Ext wA W6 := by rw [hW6]; exact x6.alloc _
      clear hW6
      have KB := (x7.block _ (blk_lt KA)).trans KA
      have KC := (x7.block _ (blk_lt K5)).trans K5
      have rB := r5.ext x7
      have rC := hr'.ext (v3.trans (xc.trans x7))
      refine wp_region_held_drew (S := Ext W6) (by kernel_rfl) ((Ext.refl _).drew) (fun hHeld => ?_)
      obtain ⟨wD55, hwD⟩ : ∃ V, V = World.drew W6 := ⟨_, rfl⟩
      rw [← hwD]
      clear hHeld
      have zz0 : Ext W6 wD55 := by rw [hwD]; exact (Ext.refl _).drew
      clear hwD
      refine wpAnyH_imp (S' := Ext wD55) (fun W h => Ext.trans zz0 h) _ _ _ _ ?_
      have hHeld := Ext.refl wD55
      refine wpAnyH_take (i := 0) (oi := { dst := some 65, op := Op.move (Operand.tmp 7), type := 4, pos := "law.go:52", after := #[], guard := none }) (v := ?vv56_9_0) rfl (by kernel_rfl) (by kernel_rfl) (by kernel_rfl) (fun _ _ _ h => h) (Or.inl ⟨by rfl, ?yy56_9_0⟩) hHeld ?_
      case yy56_9_0 => (intro W hx; go_simp; try with_reducible rfl)
      simp only [Act.put, List.setIfInBounds_toArray, List.set_cons_zero, List.set_cons_succ]
      refine wpAnyH_take (i := 1) (oi := { dst := some 66, op := Op.move (Operand.tmp 65), type := 4, pos := "law.go:52", after := #[{ on := 0, ground := Ground.data }], guard := none }) (v := ?vv57_9_1) rfl (by kernel_rfl) (by kernel_rfl) (by kernel_rfl) (fun _ _ _ h => h) (Or.inl ⟨by rfl, ?yy57_9_1⟩) hHeld ?_
      case yy57_9_1 => (intro W hx; go_simp; try with_reducible rfl)
      simp only [Act.put, List.setIfInBounds_toArray, List.set_cons_zero, List.set_cons_succ]
      refine wpAnyH_take (i := 2) (oi := { dst := some 67, op := Op.move (Operand.tmp 11), type := 27, pos := "law.go:52", after := #[{ on := 1, ground := Ground.guard }], guard := some (1, true) }) (v := ?vv58_9_2) rfl (by kernel_rfl) (by kernel_rfl) (by kernel_rfl) (fun _ _ _ h => h) (Or.inl ⟨by rfl, ?yy58_9_2⟩) hHeld ?_
      case yy58_9_2 => (intro W hx; go_simp; try with_reducible rfl)
      simp only [Act.put, List.setIfInBounds_toArray, List.set_cons_zero, List.set_cons_succ]
      refine wpAnyH_take (i := 3) (oi := { dst := some 68, op := Op.binOp BinOp.eql 27 (Operand.tmp 67) (Operand.const (Value.int IntKind.i64 0)) 27, type := 4, pos := "law.go:52", after := #[{ on := 2, ground := Ground.data }, { on := 1, ground := Ground.guard }], guard := some (1, true) }) (v := ?vv59_9_3) rfl (by kernel_rfl) (by kernel_rfl) (by kernel_rfl) (fun _ _ _ h => h) (Or.inl ⟨by rfl, ?yy59_9_3⟩) hHeld ?_
      case yy59_9_3 => (intro W hx; go_simp; try with_reducible rfl)
      simp only [Act.put, List.setIfInBounds_toArray, List.set_cons_zero, List.set_cons_succ]
      refine wpAnyH_take (i := 4) (oi := { dst := some 69, op := Op.pick (Operand.tmp 66) (Operand.tmp 68) (Operand.const (Value.bool false)), type := 4, pos := "law.go:52", after := #[{ on := 1, ground := Ground.data }, { on := 3, ground := Ground.data }], guard := none }) (v := ?vv60_9_4) rfl (by kernel_rfl) (by kernel_rfl) (by kernel_rfl) (fun _ _ _ h => h) (Or.inl ⟨by rfl, ?yy60_9_4⟩) hHeld ?_
      case yy60_9_4 => (intro W hx; go_simp; try with_reducible rfl)
      simp only [Act.put, List.setIfInBounds_toArray, List.set_cons_zero, List.set_cons_succ]
      refine wpAnyH_take (i := 5) (oi := { dst := some 70, op := Op.move (Operand.tmp 69), type := 4, pos := "law.go:52", after := #[{ on := 4, ground := Ground.data }, { on := 1, ground := Ground.chain }], guard := none }) (v := ?vv61_9_5) rfl (by kernel_rfl) (by kernel_rfl) (by kernel_rfl) (fun _ _ _ h => h) (Or.inl ⟨by rfl, ?yy61_9_5⟩) hHeld ?_
      case yy61_9_5 => (intro W hx; go_simp; try with_reducible rfl)
      simp only [Act.put, List.setIfInBounds_toArray, List.set_cons_zero, List.set_cons_succ]
      refine wpAnyH_take (i := 6) (oi := { dst := some 71, op := Op.load 26 (Operand.tmp 10), type := 26, pos := "law.go:52", after := #[{ on := 5, ground := Ground.guard }], guard := some (5, true) }) (v := ?vv62_9_6) rfl (by kernel_rfl) (by kernel_rfl) (by kernel_rfl) (fun _ _ _ h => h) (Or.inl ⟨by rfl, ?yy62_9_6⟩) hHeld ?_
      case yy62_9_6 => (intro W hx; have hz := zz0.trans hx; obtain ⟨f0, f1, f2, f3, f4, f5, f6, f7⟩ := cells8 ((hz.block _ (blk_lt KB)).trans KB); obtain ⟨g0, g1, g2, g3, g4, g5, g6, g7⟩ := cells8 ((hz.block _ (blk_lt KC)).trans KC); go_simp; try with_reducible rfl)
      simp only [Act.put, List.setIfInBounds_toArray, List.set_cons_zero, List.set_cons_succ]
      refine wpAnyH_take (i := 7) (oi := { dst := some 72, op := Op.load 26 (Operand.tmp 3), type := 26, pos := "law.go:52", after := #[{ on := 5, ground := Ground.guard }], guard := some (5, true) }) (v := ?vv63_9_7) rfl (by kernel_rfl) (by kernel_rfl) (by kernel_rfl) (fun _ _ _ h => h) (Or.inl ⟨by rfl, ?yy63_9_7⟩) hHeld ?_
      case yy63_9_7 => (intro W hx; have hz := zz0.trans hx; obtain ⟨f0, f1, f2, f3, f4, f5, f6, f7⟩ := cells8 ((hz.block _ (blk_lt KB)).trans KB); obtain ⟨g0, g1, g2, g3, g4, g5, g6, g7⟩ := cells8 ((hz.block _ (blk_lt KC)).trans KC); go_simp; try with_reducible rfl)
      simp only [Act.put, List.setIfInBounds_toArray, List.set_cons_zero, List.set_cons_succ]
      refine wpAnyH_ready (rs := [8]) (by kernel_rfl) (by simp) (AllReadyH.cons rfl (fun K hK => ?_) AllReadyH.nil)
      go_simp
      go_wp2_with (go_at_call 9; (with_reducible refine (few_any _ _ _ _ _ _ _ _ _ _ _ hnc hc).mono ?_); rintro e wp ⟨rfl, xp⟩; rw [HM.out])
      refine hK.out _ _ xp (fun hHeld => ?_)
      clear hK K
      refine wpAnyH_imp (S' := Ext wp) (fun W h => Ext.trans xp h) _ _ _ _ ?_
      replace hHeld := Ext.refl wp
      have zz1 := zz0.trans xp
      refine wpAnyH_ready (rs := [9]) (by kernel_rfl) (by simp) (AllReadyH.cons rfl (fun K hK => ?_) AllReadyH.nil)
      go_simp
      go_wp2_with (go_at_call 16; (with_reducible refine (same_any _ _ _ _ _ _ _ _ _ _ _ _ _ _ _ (rB.ext (zz0.trans xp)) (rC.ext (zz0.trans xp))).mono ?_); rintro e wq ⟨rfl, xq⟩)
      refine hK.out _ _ xq (fun hHeld => ?_)
      clear hK K
      refine wpAnyH_imp (S' := Ext wq) (fun W h => Ext.trans xq h) _ _ _ _ ?_
      replace hHeld := Ext.refl wq
      have zz2 := zz1.trans xq
      refine wpAnyH_take (i := 10) (oi := { dst := some 75, op := Op.pick (Operand.tmp 70) (Operand.tmp 74) (Operand.const (Value.bool false)), type := 4, pos := "law.go:52", after := #[{ on := 5, ground := Ground.data }, { on := 9, ground := Ground.data }], guard := none }) (v := ?vv64_9_10) rfl (by kernel_rfl) (by kernel_rfl) (by kernel_rfl) (fun _ _ _ h => h) (Or.inl ⟨by rfl, ?yy64_9_10⟩) hHeld ?_
      case yy64_9_10 => (intro W hx; go_simp; try with_reducible rfl)
      simp only [Act.put, List.setIfInBounds_toArray, List.set_cons_zero, List.set_cons_succ]
      refine wpAnyH_take (i := 11) (oi := { dst := some 76, op := Op.move (Operand.tmp 75), type := 4, pos := "law.go:52", after := #[{ on := 10, ground := Ground.data }, { on := 9, ground := Ground.chain }], guard := none }) (v := ?vv65_9_11) rfl (by kernel_rfl) (by kernel_rfl) (by kernel_rfl) (fun _ _ _ h => h) (Or.inl ⟨by rfl, ?yy65_9_11⟩) hHeld ?_
      case yy65_9_11 => (intro W hx; go_simp; try with_reducible rfl)
      simp only [Act.put, List.setIfInBounds_toArray, List.set_cons_zero, List.set_cons_succ]
      refine wpAnyH_take (i := 12) (oi := { dst := some 77, op := Op.move (Operand.tmp 13), type := 27, pos := "law.go:52", after := #[{ on := 11, ground := Ground.guard }], guard := some (11, true) }) (v := ?vv66_9_12) rfl (by kernel_rfl) (by kernel_rfl) (by kernel_rfl) (fun _ _ _ h => h) (Or.inl ⟨by rfl, ?yy66_9_12⟩) hHeld ?_
      case yy66_9_12 => (intro W hx; go_simp; try with_reducible rfl)
      simp only [Act.put, List.setIfInBounds_toArray, List.set_cons_zero, List.set_cons_succ]
      refine wpAnyH_take (i := 13) (oi := { dst := some 78, op := Op.binOp BinOp.eql 27 (Operand.tmp 77) (Operand.const (Value.int IntKind.i64 5)) 27, type := 4, pos := "law.go:52", after := #[{ on := 12, ground := Ground.data }, { on := 11, ground := Ground.guard }], guard := some (11, true) }) (v := ?vv67_9_13) rfl (by kernel_rfl) (by kernel_rfl) (by kernel_rfl) (fun _ _ _ h => h) (Or.inl ⟨by rfl, ?yy67_9_13⟩) hHeld ?_
      case yy67_9_13 => (intro W hx; go_simp; try with_reducible rfl)
      simp only [Act.put, List.setIfInBounds_toArray, List.set_cons_zero, List.set_cons_succ]
      refine wpAnyH_take (i := 14) (oi := { dst := some 79, op := Op.pick (Operand.tmp 76) (Operand.tmp 78) (Operand.const (Value.bool false)), type := 4, pos := "law.go:52", after := #[{ on := 11, ground := Ground.data }, { on := 13, ground := Ground.data }], guard := none }) (v := ?vv68_9_14) rfl (by kernel_rfl) (by kernel_rfl) (by kernel_rfl) (fun _ _ _ h => h) (Or.inl ⟨by rfl, ?yy68_9_14⟩) hHeld ?_
      case yy68_9_14 => (intro W hx; go_simp; try with_reducible rfl)
      simp only [Act.put, List.setIfInBounds_toArray, List.set_cons_zero, List.set_cons_succ]
      refine wpAnyH_take (i := 15) (oi := { dst := some 6, op := Op.assign (Operand.tmp 79), type := 4, pos := "law.go:52", after := #[{ on := 14, ground := Ground.data }, { on := 11, ground := Ground.chain }, { on := 0, ground := Ground.phase }, { on := 1, ground := Ground.phase }, { on := 2, ground := Ground.phase }, { on := 3, ground := Ground.phase }, { on := 4, ground := Ground.phase }, { on := 5, ground := Ground.phase }, { on := 6, ground := Ground.phase }, { on := 7, ground := Ground.phase }, { on := 8, ground := Ground.phase }, { on := 9, ground := Ground.phase }, { on := 10, ground := Ground.phase }, { on := 11, ground := Ground.phase }, { on := 12, ground := Ground.phase }, { on := 13, ground := Ground.phase }, { on := 14, ground := Ground.phase }], guard := none }) (v := ?vv69_9_15) rfl (by kernel_rfl) (by kernel_rfl) (by kernel_rfl) (fun _ _ _ h => h) (Or.inl ⟨by rfl, ?yy69_9_15⟩) hHeld ?_
      case yy69_9_15 => (intro W hx; go_simp; try with_reducible rfl)
      simp only [Act.put, List.setIfInBounds_toArray, List.set_cons_zero, List.set_cons_succ]
      refine wpAnyH_done (by kernel_rfl) ?_ _
      have zend := zz2.trans hHeld
      go_wp2
      go_ret
      exact ⟨by simp, v3.trans (xc.trans (x7.trans zend))⟩
  · have HB := Lib.hid hb; clear hb
    go_enter Try.func5, Try.ntmps5
    go_upto_region 2 with (go_at_call 13; (with_reducible refine (shown_any _).mono ?_); rintro e w1 ⟨rfl, x1⟩)
    have K1 := blk_of x1
    have v1 := ((Ext.refl w).alloc (.cells #[.int .u8 c, .int .u8 a0, .int .u8 a1, .int .u8 a2, .int .u8 a3, .int .u8 a4, .int .u32 W, .slice A n cp] 26)).trans x1
    obtain ⟨f0, f1, f2, f3, f4, f5, f6, f7⟩ := cells8 K1
    go_wp2_with (first
      | (go_at_call 9; (with_reducible refine (few_any _ _ _ _ _ _ _ _ _ _ _ hnc hc).mono ?_); rintro e w2 ⟨rfl, x2⟩; rw [HM.out])
      | (go_at_call 8; (with_reducible refine (put_bad _ _ _ _ _ _ _ _ _ _ _ _ h0 h1 hal W0 W1 (hr'.ext (v1.trans x2)) hm20 HB.out).mono ?_); rintro e w3 ⟨rfl, x3⟩))
    go_ret
    exact ⟨by simp, v1.trans (x2.trans x3)⟩
end Go.Proofs.Ytnfipfgbckbaeaa
