import Derived.Test.YtjdabmadpclbaaaBN
set_option linter.unusedVariables false
set_option linter.unusedSimpArgs false
namespace Go.Proofs.Ytjdabmadpclbaaa
open Go.RowKit
theorem ssN_nil : ssN (fun _ => []) 3 = [d0, d0, d0] := rfl
theorem send_yes' {s : BSt} {f : Fr} (h : f.may = true) (h3 : ¬ 3 ≤ s.tx.length) : s.send f = ({ s with tx := s.tx ++ [f] }, 0) := by simp [BSt.send, h, h3]
theorem turn_no {ss : List BSt} (lost : Bool) (h : tot ss = 0) : turnL lost ss = ss := by unfold turnL; rw [pick_no h]; simp
set_option maxRecDepth 100000 in
set_option maxHeartbeats 16000000 in
theorem ranks_law (w : World) (cs : Array Value) (fA : Nat → Option Addr) (fn fc : Nat → Nat) (fl : Nat → List Fr) (hcs : ∀ i, i < 3 → cs[i]? = some (.slice (fA i) (fn i) (fc i))) (h1 : ∀ i, i < 3 → fn i ≤ fc i) (h2 : ∀ i, i < 3 → fc i ≤ maxLen) (hfl : ∀ i, i < 3 → fn i = (fl i).length)
    (shf : ∀ i, i < 3 → Shows w 11 (fA i) (fn i) (frs (fl i))) (okf : ∀ i, i < 3 → ∀ x ∈ fl i, x.ok) :
    Calls Try.prog 4 #[.agg cs] w fun e w' => e = .returned (.bool true) ∧ Ext w w' := by
  have H := Lib.hid (And.intro hcs (And.intro h1 (And.intro h2 (And.intro hfl (And.intro shf okf)))))
  clear hcs h1 h2 hfl shf okf
  have hno := fun W => nodes_any (w := W) #[.slice none 0 0, .slice none 0 0, .slice none 0 0] (fun _ => none) (fun _ => 0) (fun _ => 0) (fun _ => []) (all3 rfl rfl rfl) (fun i _ => Nat.le_refl _) (fun i _ => by simp) (fun i _ => rfl) (fun i _ => Shows.nil) (fun i _ x hx => by cases hx)
  have HNO := Lib.hid hno
  clear hno
  obtain ⟨w1, hw1⟩ : ∃ V, V = w.alloc (.cells cs 55) := ⟨_, rfl⟩
  have k1 : w1.heap[w.heap.size]? = some (.cells cs 55 (0, 0)) := by rw [hw1]; exact heap_alloc_new _ _
  have x1 : Ext w w1 := by rw [hw1]; exact (Ext.refl _).alloc _
  go_enter Try.func4, Try.ntmps4
  go_upto_region 1 with (fail)
  change Code.wp _ _ _ _ (w.alloc (.cells cs 55))
  rw [← hw1]
  clear hw1
  go_upto_region 2 with (go_at_call 8; (refine (shown_any _).mono ?_); rintro e w2 ⟨rfl, x2⟩)
  have k2 := (x2.block _ (blk_lt k1)).trans k1
  have x02 := x1.trans x2
  go_upto_region 3 with (go_at_call 9; (refine (HNO.out _).mono ?_); rintro e w3 ⟨va, vb, gs, hs, rfl, N3⟩)
  obtain ⟨aA, aC, rfl⟩ := own_slice N3.rowA
  obtain ⟨bA', bC', rfl⟩ := own_slice N3.rowB
  have HG3 : Hid (gs.length = 3) := Lib.hid (by rw [N3.lenA, ssN_len])
  have HG9 : Hid (gs.length ≤ 100) := Lib.hid (by rw [N3.lenA, ssN_len]; omega)
  rw [ssN_nil] at N3
  have N3 := Lib.hid N3
  clear HNO k1
  generalize hts : [d0, d0, d0] = ts0 at N3
  have HTS := Lib.hid hts
  clear hts
  go_wp2
  go_loopg [25, 6] 3 (fun gk i v wr => ∃ (k : Nat) (ss : List BSt), i = .int .i64 k ∧ k ≤ 3 ∧ gk = 3 - k ∧ v = .int .i64 (tot ss) ∧ NN w2 0 0 wr aA aC bA' bC' gs hs ss ts0 ∧ ∀ (j : Nat) (s : BSt), k ≤ j → ss[j]? = some s → s.tx = [])
  case atStart => exact ⟨0, ts0, rfl, by omega, rfl, by rw [← HTS.out]; rfl, N3.out, fun j s _ hs => by
    rw [← HTS.out] at hs
    match j, hs with
    | 0, hs => injection hs with hs; rw [← hs]; rfl
    | 1, hs => injection hs with hs; rw [← hs]; rfl
    | 2, hs => injection hs with hs; rw [← hs]; rfl⟩
  case round =>
    clear N3
    obtain ⟨k, ss, rfl, hk, rfl, rfl, hN, hem⟩ := hrel
    obtain ⟨wr1, rfl⟩ : ∃ z : World, z = wr := ⟨_, rfl⟩
    have htl := tot_le hN.okA
    have hlg := hN.lenA
    by_cases hlt : k < 3
    · have hk3 : (k : Int) < 3 := by omega
      have hk0 : (0 : Int) ≤ k := by omega
      obtain ⟨hcs, h1, h2, hfl, shf, okf⟩ := H.out
      have e1 := hcs k hlt
      have e2 := h1 k hlt
      have e3 := h2 k hlt
      have e4 := hfl k hlt
      have e5 := shf k hlt
      have e6 := okf k hlt
      clear hcs h1 h2 hfl shf okf
      generalize fA k = A' at *
      generalize fn k = n' at *
      generalize fc k = c' at *
      generalize fl k = l' at *
      obtain ⟨g, hg⟩ : ∃ g, gs[k]? = some g := ⟨_, List.getElem?_eq_getElem (show k < gs.length by rw [HG3.out]; exact hlt)⟩
      obtain ⟨s0, hs0⟩ : ∃ s, ss[k]? = some s := ⟨_, List.getElem?_eq_getElem (show k < ss.length by rw [← hlg, HG3.out]; exact hlt)⟩
      have hz0 := hem k s0 (Nat.le_refl _) hs0
      have hkg : (k : Int) < gs.length := by rw [HG3.out]; omega
      have kw := (hN.x.block _ (blk_lt k2)).trans k2
      have ck := cell_of_row wr1 w.heap.size k cs 55 (0, 0) kw
      rw [e1] at ck
      have hss3 : ss.length = 3 := by rw [← hlg, HG3.out]
      have hT9 : tot ss ≤ 9 := by omega
      have HG := Lib.hid hg
      have HL := Lib.hid e4
      have H6 := Lib.hid e6
      have SH := Lib.hid e5
      have HN := Lib.hid (And.intro hN (And.intro (fun (j : Nat) (s : BSt) (hj : k + 1 ≤ j) => hem j s (by omega)) (And.intro hs0 hz0)))
      obtain ⟨T, hT⟩ : ∃ T, T = tot ss := ⟨_, rfl⟩
      rw [← hT] at hT9 ⊢
      have HT := Lib.hid hT
      clear hN hem e1 e4 e5 e6 hg hs0 hz0 kw hlg htl hss3 hT
      unfold maxLen at e3
      go_wp2
      go_loopg [32, 8] n' (fun gk i v wr => ∃ (j : Nat) (ss : List BSt) (s : BSt), i = .int .i64 j ∧ j ≤ n' ∧ gk = n' - j ∧ v = .int .i64 s.tx.length ∧ NN w2 0 0 wr aA aC bA' bC' gs hs ss ts0 ∧ ss[k]? = some s ∧ tot ss = T + s.tx.length ∧ ∀ (j : Nat) (s : BSt), k + 1 ≤ j → ss[j]? = some s → s.tx = [])
      case atStart => exact ⟨0, ss, s0, rfl, by omega, by omega, by rw [HN.out.2.2.2]; rfl, HN.out.1, HN.out.2.2.1, by rw [HN.out.2.2.2, ← HT.out]; rfl, HN.out.2.1⟩
      case round =>
        clear HN
        obtain ⟨j, ss2, s, rfl, hj, rfl, rfl, hN, hs, htot, hem⟩ := hrel
        obtain ⟨wr2, rfl⟩ : ∃ z : World, z = wr := ⟨_, rfl⟩
        have hnt := (hN.okA s (List.mem_of_getElem? hs)).nt
        by_cases hjn : j < n'
        · have hjn' : (j : Int) < n' := by omega
          obtain ⟨y, hy⟩ : ∃ y, l'[j]? = some y := ⟨_, List.getElem?_eq_getElem (show j < l'.length by rw [← HL.out]; exact hjn)⟩
          have hyo := H6.out y (List.mem_of_getElem? hy)
          obtain ⟨b, o, rfl, hb, hr⟩ := Shows.fr (SH.out.ext (x02.trans hN.x)) HL.out hy
          have HS := Lib.hid (And.intro hs (And.intro htot hem))
          have HN := Lib.hid hN
          clear hN hs htot hem hy
          go_upto_region 11 with (first
            | refine wpList_load_mid rfl 34 _ rfl _ _ rfl y.vals _ hr Try.underlying34 rfl size37 ?_
            | refine wpList_stnew rfl 34 _ _ rfl rfl y.vals rfl rfl size37 rfl (fr_one y) ?_)
          obtain ⟨w4, hw4⟩ : ∃ V, V = wr2.alloc (.cells y.vals.toArray 34) := ⟨_, rfl⟩
          have k4 : w4.heap[wr2.heap.size]? = some (.cells y.vals.toArray 34 (0, 0)) := by rw [hw4]; exact heap_alloc_new _ _
          have x4 : Ext wr2 w4 := by rw [hw4]; exact (Ext.refl _).alloc _
          rw [← hw4]
          clear hw4 hr
          by_cases h3 : s.tx.length < 3
          · have h3' : (s.tx.length : Int) < 3 := by omega
            obtain ⟨bm, hbm⟩ : ∃ bm, y.may = bm := ⟨_, rfl⟩
            have HMAY := Lib.hid (rmay_fr y w4)
            rw [hbm] at HMAY
            have HB := Lib.hid hbm
            clear hbm
            go_upto_if 41 with (first
              | refine wpList_ldrowG rfl 34 _ rfl k4 rfl Try.underlying34 rfl size37 ?_
              | (go_at_call 23; (refine HMAY.out.mono ?_); rintro e w5 ⟨rfl, x5⟩))
            have k5 := (x5.block _ (blk_lt k4)).trans k4
            have N5 := Lib.hid (Nodes.hole HN.out (x4.trans x5))
            have hs5 : wr2.heap.size < w5.heap.size := blk_lt k5
            clear HN
            cases bm
            · go_wp2
              go_roundg (n' - (j + 1))
              case measure => omega
              case rel => exact ⟨j + 1, ss2, s, by go_num, by omega, rfl, rfl, N5.out.no, HS.out.1, HS.out.2.1, HS.out.2.2⟩
            · have HSD := Lib.hid (send_yes' (s := s) HB.out (show ¬ 3 ≤ s.tx.length by omega))
              obtain ⟨bA, oA, rfl, hbA, _⟩ := ptr_cell (NN.shA N5.out) rfl HG.out
              have hcA := ptr_cell' (NN.shA N5.out) rfl HG.out
              go_upto_region 12 with (fail)
              refine wp_region_held_drew (S := fun W => W.heap[wr2.heap.size]? = some (.cells y.vals.toArray 34 (0, 0)) ∧ W.cell? ⟨bA, oA + k, none⟩ = some (ptr g)) (by kernel_rfl) (⟨(((Ext.refl w5).drew).block _ hs5).trans k5, (Below.cell ((Ext.refl w5).drew) (p := ⟨bA, oA + k, none⟩) hbA).trans hcA⟩) (fun hHeld => ?_)
              obtain ⟨wD1, hwD⟩ : ∃ V, V = World.drew w5 := ⟨_, rfl⟩
              rw [← hwD] at hHeld ⊢
              have zz0 : Ext w5 wD1 := by rw [hwD]; exact (Ext.refl _).drew
              clear hwD
              have PD := N5.out.ext zz0
              refine wpAnyH_take (i := 0) (oi := { dst := some 42, op := Op.move (Operand.tmp 4), type := 26, pos := "law.go:99", after := #[], guard := none }) (v := ?vv2_12_0) rfl (by kernel_rfl) (by kernel_rfl) (by kernel_rfl) (fun _ _ _ h => h) (Or.inl ⟨by rfl, ?yy2_12_0⟩) hHeld ?_
              case yy2_12_0 => (intro W hx; go_simp; try with_reducible rfl)
              simp only [Act.put, List.setIfInBounds_toArray, List.set_cons_zero, List.set_cons_succ]
              refine wpAnyH_take (i := 1) (oi := { dst := some 43, op := Op.move (Operand.tmp 7), type := 3, pos := "law.go:99", after := #[], guard := none }) (v := ?vv3_12_1) rfl (by kernel_rfl) (by kernel_rfl) (by kernel_rfl) (fun _ _ _ h => h) (Or.inl ⟨by rfl, ?yy3_12_1⟩) hHeld ?_
              case yy3_12_1 => (intro W hx; go_simp; try with_reducible rfl)
              simp only [Act.put, List.setIfInBounds_toArray, List.set_cons_zero, List.set_cons_succ]
              refine wpAnyH_take (i := 2) (oi := { dst := some 44, op := Op.indexAddr 26 (Operand.tmp 42) (Operand.tmp 43), type := 0, pos := "law.go:99", after := #[{ on := 0, ground := Ground.data }, { on := 1, ground := Ground.data }], guard := none }) (v := ?vv4_12_2) rfl (by kernel_rfl) (by kernel_rfl) (by kernel_rfl) (fun _ _ _ h => h) (Or.inl ⟨by rfl, ?yy4_12_2⟩) hHeld ?_
              case yy4_12_2 => (intro W hx; go_simp; try with_reducible rfl)
              simp only [Act.put, List.setIfInBounds_toArray, List.set_cons_zero, List.set_cons_succ]
              refine wpAnyH_take (i := 3) (oi := { dst := some 45, op := Op.load 41 (Operand.tmp 44), type := 41, pos := "law.go:99", after := #[{ on := 2, ground := Ground.data }], guard := none }) (v := ?vv5_12_3) rfl (by kernel_rfl) (by kernel_rfl) (by kernel_rfl) (fun _ _ _ h => h) (Or.inl ⟨by rfl, ?yy5_12_3⟩) hHeld ?_
              case yy5_12_3 => (intro W hx; have q9 := hx.2; go_simp; try with_reducible rfl)
              simp only [Act.put, List.setIfInBounds_toArray, List.set_cons_zero, List.set_cons_succ]
              refine wpAnyH_take (i := 4) (oi := { dst := some 46, op := Op.load 34 (Operand.tmp 10), type := 34, pos := "law.go:99", after := #[], guard := none }) (v := ?vv6_12_4) rfl (by kernel_rfl) (by kernel_rfl) (by kernel_rfl) (fun _ _ _ h => h) (Or.inl ⟨by rfl, ?yy6_12_4⟩) hHeld ?_
              case yy6_12_4 => (intro W hx; refine ld_op (frAt hx.1) ?_; rfl)
              simp only [Act.put, List.setIfInBounds_toArray, List.set_cons_zero, List.set_cons_succ]
              refine wpAnyH_ready (rs := [5]) (by kernel_rfl) (by simp) (AllReadyH.cons rfl (fun K hK => ?_) AllReadyH.nil)
              go_simp
              go_wp2_with (go_at_call 13; (refine (send_n PD HG.out HS.out.1 hyo HSD.out).mono ?_); rintro e w6 ⟨rfl, N6, hole6⟩)
              refine hK.out _ _ (⟨(hole6 _ (Nat.le_refl _) hs5).trans hHeld.1, ptr_cell' N6.shA rfl HG.out⟩) (fun hHeld => ?_)
              clear hK K
              refine wpAnyH_take (i := 6) (oi := { dst := some 48, op := Op.binOp BinOp.neq 40 (Operand.tmp 47) (Operand.const (Value.int IntKind.i64 0)) 40, type := 4, pos := "law.go:99", after := #[{ on := 5, ground := Ground.data }], guard := none }) (v := ?vv7_12_6) rfl (by kernel_rfl) (by kernel_rfl) (by kernel_rfl) (fun _ _ _ h => h) (Or.inl ⟨by rfl, ?yy7_12_6⟩) hHeld ?_
              case yy7_12_6 => (intro W hx; go_simp; try with_reducible rfl)
              simp only [Act.put, List.setIfInBounds_toArray, List.set_cons_zero, List.set_cons_succ]
              refine wpAnyH_done (by kernel_rfl) ?_ _
              have NX := Lib.hid N6.no
              clear N6 PD hole6 hHeld hcA
              go_wp2
              go_roundg (n' - (j + 1))
              case measure => omega
              case rel =>
                obtain ⟨q1, q2, q3⟩ := HS.out
                have q4 := tot_set (s' := { s with tx := s.tx ++ [y] }) ss2 k q1
                have q5 : ({ s with tx := s.tx ++ [y] } : BSt).tx.length = s.tx.length + 1 := by simp
                exact ⟨j + 1, ss2.set k { s with tx := s.tx ++ [y] }, { s with tx := s.tx ++ [y] }, by go_num, by omega, rfl, by rw [q5]; go_num, NX.out, List.getElem?_set_self (List.getElem?_eq_some_iff.1 q1).1, by omega, fun i t hi ht => q3 i t hi (by rw [List.getElem?_set_ne (by omega)] at ht; exact ht)⟩
          · have h3' : ¬ (s.tx.length : Int) < 3 := by omega
            go_wp2
            go_roundg (n' - (j + 1))
            case measure => omega
            case rel => exact ⟨j + 1, ss2, s, by go_num, by omega, rfl, rfl, (HN.out.ext x4), HS.out.1, HS.out.2.1, HS.out.2.2⟩
        · obtain rfl : j = n' := by omega
          have HN := Lib.hid hN
          have HE := Lib.hid (And.intro htot hem)
          clear hN htot hem hs
          go_wp2
          go_roundg (3 - (k + 1))
          case measure => omega
          case rel => exact ⟨k + 1, ss2, by go_num, by omega, rfl, by rw [HE.out.1]; go_num, HN.out, HE.out.2⟩
    · obtain rfl : k = 3 := by omega
      have hokA := hN.okA
      have hinv : Inv 0 0 ss := fun j s x hs hx => by
        have := rank_nn ((hokA s (List.mem_of_getElem? hs)).tx x hx)
        by_cases h0 : 0 < x.rank
        · exact .inl h0
        · exact .inr ⟨by omega, by omega⟩
      have hss3 : ss.length = 3 := by rw [← hlg, HG3.out]
      have hT9 : tot ss ≤ 9 := by omega
      have HI := Lib.hid hinv
      have HN := Lib.hid hN
      obtain ⟨T, hT⟩ : ∃ T, T = tot ss := ⟨_, rfl⟩
      rw [← hT] at hT9 ⊢
      have HT := Lib.hid hT
      clear hN hem hlg htl hokA hinv hss3 hT
      go_wp2
      go_loopg [57, 11, 12] T (fun gk i la wh wr => ∃ (k : Nat) (ss : List BSt) (lv : Int) (wv : Nat), i = .int .i64 k ∧ k + tot ss = T ∧ gk = tot ss ∧ la = .int .u32 lv ∧ wh = .int .i64 wv ∧ NN w2 0 0 wr aA aC bA' bC' gs hs ss ts0 ∧ Inv lv wv ss)
      case atStart => exact ⟨0, ss, 0, 0, rfl, by rw [HT.out]; omega, HT.out, rfl, rfl, HN.out, HI.out⟩
      case round =>
        clear HN HI HT
        obtain ⟨k, ss, lv, wv, rfl, hkt, rfl, rfl, rfl, hN, hI⟩ := hrel
        obtain ⟨wr2, rfl⟩ : ∃ z : World, z = wr := ⟨_, rfl⟩
        by_cases hpos : 0 < tot ss
        · have hkT : (k : Int) < T := by omega
          have hps := pick_some hpos
          have hpl := pick_lt hps
          have hpo : (pick ss).2.1.ok := pickTo_ok hN.okA _ (Nat.le_refl _)
          obtain ⟨pl, f, fd, hp⟩ : ∃ pl f fd, pick ss = (pl, f, fd) := ⟨_, _, _, rfl⟩
          rw [hp] at hps hpl hpo
          simp only at hps hpl hpo
          subst hps
          have htt := tot_turn false hp
          obtain ⟨i1, i2⟩ := inv_now hI hp
          have HI2 := Lib.hid (inv_turn hp)
          have hpl3 : pl < 3 := by rw [← hN.lenA, HG3.out] at hpl; exact hpl
          have hp0 : ¬ ((pl : Int) < 0) := by omega
          have hp2 : ¬ ((2 : Int) < pl) := by omega
          have i1b : decide (f.rank < lv) = false := decide_eq_false i1
          have hp0b : decide ((pl : Int) < 0) = false := decide_eq_false hp0
          have hp2b : decide ((2 : Int) < pl) = false := decide_eq_false hp2
          have HP := Lib.hid hp
          have HTT := Lib.hid htt
          have HN := Lib.hid hN
          clear hN hI hp htt hpl
          go_upto_region 22 with (first
            | (go_at_call 15; (refine (turn_n false HN.out HG9.out HP.out rfl).mono ?_); rintro e w5 ⟨rfl, N5, _⟩)
            | refine wpList_stnew rfl 34 _ _ rfl rfl f.vals rfl rfl size37 rfl (fr_one f) ?_)
          obtain ⟨w6, hw6⟩ : ∃ V, V = w5.alloc (.cells f.vals.toArray 34) := ⟨_, rfl⟩
          have k6 : w6.heap[w5.heap.size]? = some (.cells f.vals.toArray 34 (0, 0)) := by rw [hw6]; exact heap_alloc_new _ _
          have x6 : Ext w5 w6 := by rw [hw6]; exact (Ext.refl _).alloc _
          rw [← hw6]
          clear hw6
          have N6 := Lib.hid (N5.ext x6)
          clear N5 HN
          by_cases he : f.rank = lv
          · have heb : (f.rank == lv) = true := by simpa using he
            have hwp : ¬ ((pl : Int) < wv) := by have := i2 he; omega
            have hwpb : decide ((pl : Int) < wv) = false := decide_eq_false hwp
            clear i2 he
            go_upto_region 24 with (first
              | refine wpList_ldrowG rfl 34 _ rfl k7 rfl Try.underlying34 rfl size37 ?_
              | refine wpList_ldrowG rfl 34 _ rfl k6 rfl Try.underlying34 rfl size37 ?_
              | (go_at_call 24; (refine (rrank_fr f w7 hpo).mono ?_); rintro e w8 ⟨rfl, x8⟩; have k8 := (x8.block _ (blk_lt k7)).trans k7)
              | (go_at_call 24; (refine (rrank_fr f w6 hpo).mono ?_); rintro e w7 ⟨rfl, x7⟩; have k7 := (x7.block _ (blk_lt k6)).trans k6))
            go_wp2_with (first
              | refine wpList_ldrow rfl 34 _ rfl k8 rfl Try.underlying34 rfl size37 ?_
              | (go_at_call 24; (refine (rrank_fr f w8 hpo).mono ?_); rintro e w9 ⟨rfl, x9⟩))
            go_roundg (tot (turnL false ss))
            case measure => have := HTT.out; omega
            case rel => exact ⟨k + 1, turnL false ss, f.rank, pl, by go_num, by have := HTT.out; omega, rfl, rfl, rfl, N6.out.ext ((x7.trans x8).trans x9), HI2.out⟩
          · have heb : (f.rank == lv) = false := by simpa using he
            clear i2
            go_upto_region 24 with (first
              | refine wpList_ldrowG rfl 34 _ rfl k7 rfl Try.underlying34 rfl size37 ?_
              | refine wpList_ldrowG rfl 34 _ rfl k6 rfl Try.underlying34 rfl size37 ?_
              | (go_at_call 24; (refine (rrank_fr f w7 hpo).mono ?_); rintro e w8 ⟨rfl, x8⟩; have k8 := (x8.block _ (blk_lt k7)).trans k7)
              | (go_at_call 24; (refine (rrank_fr f w6 hpo).mono ?_); rintro e w7 ⟨rfl, x7⟩; have k7 := (x7.block _ (blk_lt k6)).trans k6))
            go_wp2_with (first
              | refine wpList_ldrow rfl 34 _ rfl k8 rfl Try.underlying34 rfl size37 ?_
              | (go_at_call 24; (refine (rrank_fr f w8 hpo).mono ?_); rintro e w9 ⟨rfl, x9⟩))
            go_roundg (tot (turnL false ss))
            case measure => have := HTT.out; omega
            case rel => exact ⟨k + 1, turnL false ss, f.rank, pl, by go_num, by have := HTT.out; omega, rfl, rfl, rfl, N6.out.ext ((x7.trans x8).trans x9), HI2.out⟩
        · have h0 : tot ss = 0 := by omega
          have hkT : ¬ (k : Int) < T := by omega
          have HP := Lib.hid (pick_no h0)
          have HT := Lib.hid (turn_no false h0)
          have HZ := Lib.hid (fun (j : Nat) (s : BSt) => tot_zero h0 j s)
          obtain ⟨g0, hg0⟩ : ∃ g, gs[0]? = some g := ⟨_, List.getElem?_eq_getElem (show 0 < gs.length by rw [HG3.out]; omega)⟩
          obtain ⟨g1, hg1⟩ : ∃ g, gs[1]? = some g := ⟨_, List.getElem?_eq_getElem (show 1 < gs.length by rw [HG3.out]; omega)⟩
          obtain ⟨g2, hg2⟩ : ∃ g, gs[2]? = some g := ⟨_, List.getElem?_eq_getElem (show 2 < gs.length by rw [HG3.out]; omega)⟩
          have hb0 : (0 : Int) < gs.length := by rw [HG3.out]; omega
          have hb0n : 0 < gs.length := by rw [HG3.out]; omega
          have hb1n : 1 < gs.length := by rw [HG3.out]; omega
          have hb2n : 2 < gs.length := by rw [HG3.out]; omega
          have hb1 : (1 : Int) < gs.length := by rw [HG3.out]; omega
          have hb2 : (2 : Int) < gs.length := by rw [HG3.out]; omega
          have hwt : ∀ W (i g : Nat), NN w2 0 0 W aA aC bA' bC' gs hs ss ts0 → gs[i]? = some g → Calls Try.prog 21 #[.pointer (some ⟨g, 0, none⟩)] W fun e w' => e = .returned (.int .i64 0) ∧ W = w' := fun W i g h hg => by
            obtain ⟨g', s, e1, e2, _⟩ : ∃ g' s, gs[i]? = some g' ∧ ss[i]? = some s ∧ True := ⟨g, _, hg, List.getElem?_eq_getElem (by rw [← h.lenA]; exact (List.getElem?_eq_some_iff.1 hg).1), trivial⟩
            have q := wait_n h hg e2
            rw [HZ.out i s e2] at q
            exact q
          have WT := Lib.hid hwt
          have HN := Lib.hid hN
          clear hN hI h0 hwt hkt hpos
          go_upto_region 27 with (first
            | (go_at_call 15; (refine (turn_n false HN.out HG9.out HP.out HT.out).mono ?_); rintro e w5 ⟨rfl, N5, _⟩)
            | refine wpList_stnew rfl 34 _ _ rfl rfl Fr.zero.vals rfl rfl size37 rfl (fr_one Fr.zero) ?_)
          obtain ⟨w6, hw6⟩ : ∃ V, V = w5.alloc (.cells Fr.zero.vals.toArray 34) := ⟨_, rfl⟩
          have x6 : Ext w5 w6 := by rw [hw6]; exact (Ext.refl _).alloc _
          rw [← hw6]
          clear hw6
          have N6 := N5.ext x6
          obtain ⟨bA, oA, rfl, hbA, hc0⟩ := ptr_cell (NN.shA N6) rfl hg0
          have hc1 := ptr_cell' (NN.shA N6) rfl hg1
          have hc2 := ptr_cell' (NN.shA N6) rfl hg2
          simp only [Nat.add_zero] at hc0
          have HG0 := Lib.hid hg0
          have HG1 := Lib.hid hg1
          have HG2 := Lib.hid hg2
          have HX := Lib.hid (x02.trans N6.x)
          have N6 := Lib.hid N6
          clear N5 HN hg0 hg1 hg2
          refine wp_region_held_drew (S := Ext w6) (by kernel_rfl) ((Ext.refl _).drew) (fun hHeld => ?_)
          obtain ⟨wD8, hwD⟩ : ∃ V, V = World.drew w6 := ⟨_, rfl⟩
          rw [← hwD]
          clear hHeld
          have zz0 : Ext w6 wD8 := by rw [hwD]; exact (Ext.refl _).drew
          clear hwD
          refine wpAnyH_imp (S' := Ext wD8) (fun W h => Ext.trans zz0 h) _ _ _ _ ?_
          have hHeld := Ext.refl wD8
          refine wpAnyH_take (i := 0) (oi := { dst := some 102, op := Op.move (Operand.tmp 3), type := 4, pos := "law.go:116", after := #[], guard := none }) (v := ?vv9_27_0) rfl (by kernel_rfl) (by kernel_rfl) (by kernel_rfl) (fun _ _ _ h => h) (Or.inl ⟨by rfl, ?yy9_27_0⟩) hHeld ?_
          case yy9_27_0 => (intro W hx; go_simp; try with_reducible rfl)
          simp only [Act.put, List.setIfInBounds_toArray, List.set_cons_zero, List.set_cons_succ]
          refine wpAnyH_take (i := 1) (oi := { dst := some 103, op := Op.move (Operand.tmp 102), type := 4, pos := "law.go:116", after := #[{ on := 0, ground := Ground.data }], guard := none }) (v := ?vv10_27_1) rfl (by kernel_rfl) (by kernel_rfl) (by kernel_rfl) (fun _ _ _ h => h) (Or.inl ⟨by rfl, ?yy10_27_1⟩) hHeld ?_
          case yy10_27_1 => (intro W hx; go_simp; try with_reducible rfl)
          simp only [Act.put, List.setIfInBounds_toArray, List.set_cons_zero, List.set_cons_succ]
          refine wpAnyH_take (i := 2) (oi := { dst := some 104, op := Op.move (Operand.tmp 18), type := 4, pos := "law.go:116", after := #[{ on := 1, ground := Ground.guard }], guard := some (1, true) }) (v := ?vv11_27_2) rfl (by kernel_rfl) (by kernel_rfl) (by kernel_rfl) (fun _ _ _ h => h) (Or.inl ⟨by rfl, ?yy11_27_2⟩) hHeld ?_
          case yy11_27_2 => (intro W hx; go_simp; try with_reducible rfl)
          simp only [Act.put, List.setIfInBounds_toArray, List.set_cons_zero, List.set_cons_succ]
          refine wpAnyH_take (i := 3) (oi := { dst := some 105, op := Op.unOp UnOp.not 4 (Operand.tmp 104), type := 4, pos := "law.go:116", after := #[{ on := 2, ground := Ground.data }, { on := 1, ground := Ground.guard }], guard := some (1, true) }) (v := ?vv12_27_3) rfl (by kernel_rfl) (by kernel_rfl) (by kernel_rfl) (fun _ _ _ h => h) (Or.inl ⟨by rfl, ?yy12_27_3⟩) hHeld ?_
          case yy12_27_3 => (intro W hx; go_simp; try with_reducible rfl)
          simp only [Act.put, List.setIfInBounds_toArray, List.set_cons_zero, List.set_cons_succ]
          refine wpAnyH_take (i := 4) (oi := { dst := some 106, op := Op.pick (Operand.tmp 103) (Operand.tmp 105) (Operand.const (Value.bool false)), type := 4, pos := "law.go:116", after := #[{ on := 1, ground := Ground.data }, { on := 3, ground := Ground.data }], guard := none }) (v := ?vv13_27_4) rfl (by kernel_rfl) (by kernel_rfl) (by kernel_rfl) (fun _ _ _ h => h) (Or.inl ⟨by rfl, ?yy13_27_4⟩) hHeld ?_
          case yy13_27_4 => (intro W hx; go_simp; try with_reducible rfl)
          simp only [Act.put, List.setIfInBounds_toArray, List.set_cons_zero, List.set_cons_succ]
          refine wpAnyH_take (i := 5) (oi := { dst := some 107, op := Op.move (Operand.tmp 106), type := 4, pos := "law.go:116", after := #[{ on := 4, ground := Ground.data }, { on := 1, ground := Ground.chain }], guard := none }) (v := ?vv14_27_5) rfl (by kernel_rfl) (by kernel_rfl) (by kernel_rfl) (fun _ _ _ h => h) (Or.inl ⟨by rfl, ?yy14_27_5⟩) hHeld ?_
          case yy14_27_5 => (intro W hx; go_simp; try with_reducible rfl)
          simp only [Act.put, List.setIfInBounds_toArray, List.set_cons_zero, List.set_cons_succ]
          refine wpAnyH_take (i := 6) (oi := { dst := some 108, op := Op.move (Operand.tmp 4), type := 26, pos := "law.go:116", after := #[{ on := 5, ground := Ground.guard }], guard := some (5, true) }) (v := ?vv15_27_6) rfl (by kernel_rfl) (by kernel_rfl) (by kernel_rfl) (fun _ _ _ h => h) (Or.inl ⟨by rfl, ?yy15_27_6⟩) hHeld ?_
          case yy15_27_6 => (intro W hx; go_simp; try with_reducible rfl)
          simp only [Act.put, List.setIfInBounds_toArray, List.set_cons_zero, List.set_cons_succ]
          refine wpAnyH_take (i := 7) (oi := { dst := some 109, op := Op.indexAddr 26 (Operand.tmp 108) (Operand.const (Value.int IntKind.i64 0)), type := 0, pos := "law.go:116", after := #[{ on := 6, ground := Ground.data }, { on := 5, ground := Ground.guard }], guard := some (5, true) }) (v := ?vv16_27_7) rfl (by kernel_rfl) (by kernel_rfl) (by kernel_rfl) (fun _ _ _ h => h) (Or.inl ⟨by rfl, ?yy16_27_7⟩) hHeld ?_
          case yy16_27_7 => (intro W hx; go_simp; try with_reducible rfl)
          simp only [Act.put, List.setIfInBounds_toArray, List.set_cons_zero, List.set_cons_succ]
          refine wpAnyH_take (i := 8) (oi := { dst := some 110, op := Op.load 41 (Operand.tmp 109), type := 41, pos := "law.go:116", after := #[{ on := 7, ground := Ground.data }, { on := 5, ground := Ground.guard }], guard := some (5, true) }) (v := ?vv17_27_8) rfl (by kernel_rfl) (by kernel_rfl) (by kernel_rfl) (fun _ _ _ h => h) (Or.inl ⟨by rfl, ?yy17_27_8⟩) hHeld ?_
          case yy17_27_8 => (intro W hx; have hz := zz0.trans hx; have q9 := (Below.cell hz (p := ⟨bA, oA, none⟩) hbA).trans hc0; go_simp; try with_reducible rfl)
          simp only [Act.put, List.setIfInBounds_toArray, List.set_cons_zero, List.set_cons_succ]
          refine wpAnyH_take (i := 10) (oi := { dst := some 112, op := Op.move (Operand.tmp 4), type := 26, pos := "law.go:116", after := #[{ on := 5, ground := Ground.guard }], guard := some (5, true) }) (v := ?vv18_27_10) rfl (by kernel_rfl) (by kernel_rfl) (by kernel_rfl) (fun _ _ _ h => h) (Or.inl ⟨by rfl, ?yy18_27_10⟩) hHeld ?_
          case yy18_27_10 => (intro W hx; go_simp; try with_reducible rfl)
          simp only [Act.put, List.setIfInBounds_toArray, List.set_cons_zero, List.set_cons_succ]
          refine wpAnyH_take (i := 11) (oi := { dst := some 113, op := Op.indexAddr 26 (Operand.tmp 112) (Operand.const (Value.int IntKind.i64 1)), type := 0, pos := "law.go:116", after := #[{ on := 10, ground := Ground.data }, { on := 5, ground := Ground.guard }], guard := some (5, true) }) (v := ?vv19_27_11) rfl (by kernel_rfl) (by kernel_rfl) (by kernel_rfl) (fun _ _ _ h => h) (Or.inl ⟨by rfl, ?yy19_27_11⟩) hHeld ?_
          case yy19_27_11 => (intro W hx; go_simp; try with_reducible rfl)
          simp only [Act.put, List.setIfInBounds_toArray, List.set_cons_zero, List.set_cons_succ]
          refine wpAnyH_take (i := 12) (oi := { dst := some 114, op := Op.load 41 (Operand.tmp 113), type := 41, pos := "law.go:116", after := #[{ on := 11, ground := Ground.data }, { on := 5, ground := Ground.guard }], guard := some (5, true) }) (v := ?vv20_27_12) rfl (by kernel_rfl) (by kernel_rfl) (by kernel_rfl) (fun _ _ _ h => h) (Or.inl ⟨by rfl, ?yy20_27_12⟩) hHeld ?_
          case yy20_27_12 => (intro W hx; have hz := zz0.trans hx; have q9 := (Below.cell hz (p := ⟨bA, oA + 1, none⟩) hbA).trans hc1; go_simp; try with_reducible rfl)
          simp only [Act.put, List.setIfInBounds_toArray, List.set_cons_zero, List.set_cons_succ]
          refine wpAnyH_take (i := 15) (oi := { dst := some 117, op := Op.move (Operand.tmp 4), type := 26, pos := "law.go:116", after := #[{ on := 5, ground := Ground.guard }], guard := some (5, true) }) (v := ?vv21_27_15) rfl (by kernel_rfl) (by kernel_rfl) (by kernel_rfl) (fun _ _ _ h => h) (Or.inl ⟨by rfl, ?yy21_27_15⟩) hHeld ?_
          case yy21_27_15 => (intro W hx; go_simp; try with_reducible rfl)
          simp only [Act.put, List.setIfInBounds_toArray, List.set_cons_zero, List.set_cons_succ]
          refine wpAnyH_take (i := 16) (oi := { dst := some 118, op := Op.indexAddr 26 (Operand.tmp 117) (Operand.const (Value.int IntKind.i64 2)), type := 0, pos := "law.go:116", after := #[{ on := 15, ground := Ground.data }, { on := 5, ground := Ground.guard }], guard := some (5, true) }) (v := ?vv22_27_16) rfl (by kernel_rfl) (by kernel_rfl) (by kernel_rfl) (fun _ _ _ h => h) (Or.inl ⟨by rfl, ?yy22_27_16⟩) hHeld ?_
          case yy22_27_16 => (intro W hx; go_simp; try with_reducible rfl)
          simp only [Act.put, List.setIfInBounds_toArray, List.set_cons_zero, List.set_cons_succ]
          refine wpAnyH_take (i := 17) (oi := { dst := some 119, op := Op.load 41 (Operand.tmp 118), type := 41, pos := "law.go:116", after := #[{ on := 16, ground := Ground.data }, { on := 5, ground := Ground.guard }], guard := some (5, true) }) (v := ?vv23_27_17) rfl (by kernel_rfl) (by kernel_rfl) (by kernel_rfl) (fun _ _ _ h => h) (Or.inl ⟨by rfl, ?yy23_27_17⟩) hHeld ?_
          case yy23_27_17 => (intro W hx; have hz := zz0.trans hx; have q9 := (Below.cell hz (p := ⟨bA, oA + 2, none⟩) hbA).trans hc2; go_simp; try with_reducible rfl)
          simp only [Act.put, List.setIfInBounds_toArray, List.set_cons_zero, List.set_cons_succ]
          refine wpAnyH_ready (rs := [9]) (by kernel_rfl) (by simp) (AllReadyH.cons rfl (fun K hK => ?_) AllReadyH.nil)
          go_simp
          go_wp2_with (go_at_call 21; (refine (WT.out _ 0 g0 ((N6.out.ext zz0).ext hHeld) HG0.out).mono ?_); rintro e w' ⟨rfl, rfl⟩)
          refine hK.out _ _ hHeld (fun hHeld => ?_)
          clear hK K
          refine wpAnyH_ready (rs := [13]) (by kernel_rfl) (by simp) (AllReadyH.cons rfl (fun K hK => ?_) AllReadyH.nil)
          go_simp
          go_wp2_with (go_at_call 21; (refine (WT.out _ 1 g1 ((N6.out.ext zz0).ext hHeld) HG1.out).mono ?_); rintro e w' ⟨rfl, rfl⟩)
          refine hK.out _ _ hHeld (fun hHeld => ?_)
          clear hK K
          refine wpAnyH_take (i := 14) (oi := { dst := some 116, op := Op.binOp BinOp.add 3 (Operand.tmp 111) (Operand.tmp 115) 3, type := 3, pos := "law.go:116", after := #[{ on := 9, ground := Ground.data }, { on := 13, ground := Ground.data }, { on := 5, ground := Ground.guard }], guard := some (5, true) }) (v := ?vv24_27_14) rfl (by kernel_rfl) (by kernel_rfl) (by kernel_rfl) (fun _ _ _ h => h) (Or.inl ⟨by rfl, ?yy24_27_14⟩) hHeld ?_
          case yy24_27_14 => (intro W hx; go_simp; try with_reducible rfl)
          simp only [Act.put, List.setIfInBounds_toArray, List.set_cons_zero, List.set_cons_succ]
          refine wpAnyH_ready (rs := [18]) (by kernel_rfl) (by simp) (AllReadyH.cons rfl (fun K hK => ?_) AllReadyH.nil)
          go_simp
          go_wp2_with (go_at_call 21; (refine (WT.out _ 2 g2 ((N6.out.ext zz0).ext hHeld) HG2.out).mono ?_); rintro e w' ⟨rfl, rfl⟩)
          refine hK.out _ _ hHeld (fun hHeld => ?_)
          clear hK K
          refine wpAnyH_take (i := 19) (oi := { dst := some 121, op := Op.binOp BinOp.add 3 (Operand.tmp 116) (Operand.tmp 120) 3, type := 3, pos := "law.go:116", after := #[{ on := 14, ground := Ground.data }, { on := 18, ground := Ground.data }, { on := 5, ground := Ground.guard }], guard := some (5, true) }) (v := ?vv25_27_19) rfl (by kernel_rfl) (by kernel_rfl) (by kernel_rfl) (fun _ _ _ h => h) (Or.inl ⟨by rfl, ?yy25_27_19⟩) hHeld ?_
          case yy25_27_19 => (intro W hx; go_simp; try with_reducible rfl)
          simp only [Act.put, List.setIfInBounds_toArray, List.set_cons_zero, List.set_cons_succ]
          refine wpAnyH_take (i := 20) (oi := { dst := some 122, op := Op.binOp BinOp.eql 3 (Operand.tmp 121) (Operand.const (Value.int IntKind.i64 0)) 3, type := 4, pos := "law.go:116", after := #[{ on := 19, ground := Ground.data }, { on := 5, ground := Ground.guard }], guard := some (5, true) }) (v := ?vv26_27_20) rfl (by kernel_rfl) (by kernel_rfl) (by kernel_rfl) (fun _ _ _ h => h) (Or.inl ⟨by rfl, ?yy26_27_20⟩) hHeld ?_
          case yy26_27_20 => (intro W hx; go_simp; try with_reducible rfl)
          simp only [Act.put, List.setIfInBounds_toArray, List.set_cons_zero, List.set_cons_succ]
          refine wpAnyH_take (i := 21) (oi := { dst := some 123, op := Op.pick (Operand.tmp 107) (Operand.tmp 122) (Operand.const (Value.bool false)), type := 4, pos := "law.go:116", after := #[{ on := 5, ground := Ground.data }, { on := 20, ground := Ground.data }], guard := none }) (v := ?vv27_27_21) rfl (by kernel_rfl) (by kernel_rfl) (by kernel_rfl) (fun _ _ _ h => h) (Or.inl ⟨by rfl, ?yy27_27_21⟩) hHeld ?_
          case yy27_27_21 => (intro W hx; go_simp; try with_reducible rfl)
          simp only [Act.put, List.setIfInBounds_toArray, List.set_cons_zero, List.set_cons_succ]
          refine wpAnyH_take (i := 22) (oi := { dst := some 2, op := Op.assign (Operand.tmp 123), type := 4, pos := "law.go:116", after := #[{ on := 21, ground := Ground.data }, { on := 18, ground := Ground.chain }, { on := 0, ground := Ground.phase }, { on := 1, ground := Ground.phase }, { on := 2, ground := Ground.phase }, { on := 3, ground := Ground.phase }, { on := 4, ground := Ground.phase }, { on := 5, ground := Ground.phase }, { on := 6, ground := Ground.phase }, { on := 7, ground := Ground.phase }, { on := 8, ground := Ground.phase }, { on := 9, ground := Ground.phase }, { on := 10, ground := Ground.phase }, { on := 11, ground := Ground.phase }, { on := 12, ground := Ground.phase }, { on := 13, ground := Ground.phase }, { on := 14, ground := Ground.phase }, { on := 15, ground := Ground.phase }, { on := 16, ground := Ground.phase }, { on := 17, ground := Ground.phase }, { on := 18, ground := Ground.phase }, { on := 19, ground := Ground.phase }, { on := 20, ground := Ground.phase }, { on := 21, ground := Ground.phase }], guard := none }) (v := ?vv28_27_22) rfl (by kernel_rfl) (by kernel_rfl) (by kernel_rfl) (fun _ _ _ h => h) (Or.inl ⟨by rfl, ?yy28_27_22⟩) hHeld ?_
          case yy28_27_22 => (intro W hx; go_simp; try with_reducible rfl)
          simp only [Act.put, List.setIfInBounds_toArray, List.set_cons_zero, List.set_cons_succ]
          refine wpAnyH_done (by kernel_rfl) ?_ _
          have zend := zz0.trans hHeld
          go_wp2
          go_ret
          exact ⟨rfl, HX.out.trans zend⟩
theorem BusRanks_law (w : World) (A0 A1 A2 : Option Addr) (n0 n1 n2 c0 c1 c2 : Nat) (l0 l1 l2 : List Fr) (hn : n0 ≤ c0 ∧ n1 ≤ c1 ∧ n2 ≤ c2) (hc : c0 ≤ maxLen ∧ c1 ≤ maxLen ∧ c2 ≤ maxLen) (hl : n0 = l0.length ∧ n1 = l1.length ∧ n2 = l2.length) (sh3 : Shows w 11 A0 n0 (frs l0) ∧ Shows w 11 A1 n1 (frs l1) ∧ Shows w 11 A2 n2 (frs l2)) (oa : ∀ a ∈ l0, a.ok) (ob : ∀ a ∈ l1, a.ok) (oc : ∀ a ∈ l2, a.ok) :
    Calls Try.prog 4 #[.agg #[.slice A0 n0 c0, .slice A1 n1 c1, .slice A2 n2 c2]] w fun e w' => e = .returned (.bool true) ∧ Ext w w' :=
  ranks_law w #[.slice A0 n0 c0, .slice A1 n1 c1, .slice A2 n2 c2] (of3 A0 A1 A2) (of3 n0 n1 n2) (of3 c0 c1 c2) (of3 l0 l1 l2) (all3 rfl rfl rfl) (all3 hn.1 hn.2.1 hn.2.2) (all3 hc.1 hc.2.1 hc.2.2) (all3 hl.1 hl.2.1 hl.2.2) (all3 sh3.1 sh3.2.1 sh3.2.2) (all3 oa ob oc)
end Go.Proofs.Ytjdabmadpclbaaa
