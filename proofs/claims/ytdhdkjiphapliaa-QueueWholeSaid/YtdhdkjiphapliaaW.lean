import Derived.Test.YtdhdkjiphapliaaV
import Derived.Test.YtdhdkjiphapliaaU
set_option linter.unusedVariables false
set_option linter.unusedSimpArgs false
namespace Go.Proofs.Ytdhdkjiphapliaa
open Go.RowKit
/-- the packets that QueueWhole puts. -/
def wholeL (i li k : Nat) : List Pk := (List.range k).map fun (j : Nat) => (⟨4, ((8 * li + j : Nat) : Int), [(i : Int), (j : Int)]⟩ : Pk)
theorem whole_len (i li k : Nat) : (wholeL i li k).length = k := by simp [wholeL]
theorem whole_succ (i li k : Nat) : wholeL i li (k + 1) = wholeL i li k ++ [⟨4, ((8 * li + k : Nat) : Int), [(i : Int), (k : Int)]⟩] := by simp [wholeL, List.range_succ]
/-- the flags. -/
def fl4 (la lb : Bool) : List Bool := [la, lb, false, false]
def fl1 (la lb : Bool) (li : Nat) : Bool := if li = 0 then la else lb
theorem whole_put {s : QS} {km k i li : Nat} {la lb : Bool} (h1 : 1 ≤ k) (h4 : k ≤ 4) (hl : li < 2) (hm : s.most = km) (hf : s.lost = fl4 la lb) :
    s.put li (wholeL i li k) = if km < s.l.length + k then (false, ⟨km, s.l, fl4 (if li = 0 then true else la) (if li = 1 then true else lb)⟩)
      else (true, ⟨km, s.l ++ mark (fl1 la lb li) (wholeL i li k), fl4 (if li = 0 then false else la) (if li = 1 then false else lb)⟩) := by
  unfold QS.put
  have hs : samp (wholeL i li k) = true := by
    simp only [samp, Bool.and_eq_true, List.all_eq_true, decide_eq_true_eq, whole_len]
    refine ⟨fun p hp => ?_, by omega⟩
    simp only [wholeL, List.mem_map, List.mem_range] at hp
    obtain ⟨j, hj, rfl⟩ := hp
    show ((8 * li + j : Nat) : Int) < 64
    omega
  rw [if_neg (fun h => h.elim (fun h => h (by omega)) (fun h => by rw [hs] at h; cases h))]
  simp only [whole_len, Int.toNat_natCast, hm, hf]
  rcases (show li = 0 ∨ li = 1 by omega) with rfl | rfl <;> rfl
/-- what waits is the queue's. -/
structure Wi (km : Nat) (s : QS) (la lb : Bool) (ws : List Rp) : Prop where
  m : s.most = km
  f : s.lost = fl4 la lb
  p : ws.map Rp.pk = s.l
theorem Wi.len {km : Nat} {s : QS} {la lb : Bool} {ws : List Rp} (h : Wi km s la lb ws) : ws.length = s.l.length := by rw [← h.p, List.length_map]
theorem Wi.next {km : Nat} {s : QS} {la lb : Bool} {x : Rp} {ws : List Rp} (h : Wi km s la lb (x :: ws)) : Wi km s.next la lb ws := ⟨h.m, h.f, by
  have := h.p
  unfold QS.next
  rw [← this]
  rfl⟩
theorem wq_fl {lo : Nat} {w : World} {g gL : Nat} {s : QS} {la lb : Bool} {v lv : Value} {ws xs : List Rp} (h : WQx lo w g gL s la lb v ws lv xs) {li : Nat} (hl : li < 2) : w.cell? ⟨gL, li, none⟩ = some (.bool (fl1 la lb li)) ∧ w.frozen? ⟨gL, li, none⟩ = false ∧ lo ≤ gL := by
  obtain ⟨F, h⟩ := h
  refine ⟨blk_cell h.fl ?_, blk_free h.fl, h.fo⟩
  rcases (show li = 0 ∨ li = 1 by omega) with rfl | rfl <;> rfl
/-- how many are told ahead of sample i. -/
def toldN (ts : List Int) (nt i : Nat) : Nat := if i < nt then (ts.getD i 0 % 8).toNat else 0
set_option maxRecDepth 100000 in
set_option maxHeartbeats 8000000 in
theorem QueueWhole_law (w : World) (mo : Nat) (A : Option Addr) (n c : Nat) (bs : List Int) (B : Option Addr) (nt ct : Nat) (ts : List Int) (hmo : mo < 256) (hs : Rd w A n bs) (hnc : n ≤ c) (hcm : c ≤ maxLen) (ht : Rd w B nt ts) (hntc : nt ≤ ct) (hctm : ct ≤ maxLen) :
    Calls Try.prog 4 #[.int .u8 (mo : Int), .slice A n c, .slice B nt ct] w fun e w' => e = .returned (.bool true) ∧ Ext w w' := by
  unfold maxLen at hcm hctm
  obtain ⟨k0, hk0, hk0T, hk08⟩ : ∃ x : Nat, (mo : Int) % 64 = (x : Int) ∧ (mo : Int).tmod 64 = (x : Int) ∧ x < 64 := ⟨mo % 64, by omega, by rw [Int.tmod_eq_emod_of_nonneg (by omega)]; omega, Nat.mod_lt _ (by omega)⟩
  obtain ⟨km, hkm⟩ : ∃ km, km = k0 + 1 := ⟨_, rfl⟩
  have hkmI : (k0 : Int) + 1 = (km : Int) := by omega
  have HKM := Lib.hid (show 1 ≤ km ∧ km ≤ 64 from ⟨by omega, by omega⟩)
  have HS := Lib.hid hs
  have HT := Lib.hid ht
  obtain ⟨m, hm⟩ : ∃ m, m = min n 40 := ⟨_, rfl⟩
  have hm40 : m ≤ 40 := by omega
  have hmn : m ≤ n := by omega
  have hmin : (if (40 : Int) < n then (40 : Int) else n) = m := by split <;> omega
  have hmin2 : (if 40 < n then (40 : Int) else n) = m := by split <;> omega
  have hmc : m ≤ c := by omega
  have hmcI : (m : Int) ≤ c := by omega
  have HKU := Lib.hid (And.intro (wri k0 (by omega)) (wri km (by omega)))
  have HK0 := Lib.hid (And.intro hk0 (And.intro hk0T hkmI))
  have uk0 := HKU.out.1
  have ukm := HKU.out.2
  clear hs ht hmo hk08 hkm hm
  go_enter Try.func4, Try.ntmps4
  go_upto_region 2 with (go_at_call 8; (refine (shown_any _).mono ?_); rintro e w1 ⟨rfl, x1⟩)
  go_upto_region 3 with (go_at_call 9; (refine (new_b HKM.out.1 HKM.out.2 _).mono ?_); rintro e w2 ⟨g, rfl, Q2⟩)
  have HQ2 := Lib.hid Q2
  clear Q2 hk0 hk0T hkmI uk0 ukm
  go_upto_region 7 with (fail)
  obtain ⟨w3, hw3⟩ : ∃ V, V = w2.alloc (.cells #[.bool false, .bool false] 47) := ⟨_, rfl⟩
  have x3 : Ext w2 w3 := by rw [hw3]; exact (Ext.refl _).alloc _
  have Q3 := wq_start HQ2.out rfl hw3
  obtain ⟨gL, hgL⟩ : ∃ z, z = w2.heap.size := ⟨_, rfl⟩
  rw [← hw3]
  rw [← hgL] at Q3 ⊢
  have HQ3 := Lib.hid Q3
  have HX3 := Lib.hid (And.intro (x1.trans (HQ2.out.1.trans x3)) (HQ2.out.1.trans x3))
  clear hw3 hgL Q3 x3
  go_upto_region 8 with (fail)
  clear hmin hmin2
  go_loopw [10, 46] (fun v v46 wr => ∃ (i : Nat) (s : QS) (la lb : Bool) (ws : List Rp), v46 = .int .i64 i ∧ i ≤ m ∧ WQx w1.heap.size wr g gL s la lb v ws (.slice none 0 0) [] ∧ Wi km s la lb ws ∧ Ext w1 wr) (fun _ v46 _ => m - (intOf v46).toNat)
  case atStart => exact ⟨0, _, _, _, _, rfl, Nat.zero_le _, HQ3.out, ⟨rfl, rfl, rfl⟩, HX3.out.2⟩
  case round =>
    obtain ⟨i, s, la, lb, ws, rfl, hi, Q, WI, x1r⟩ := hrel
    obtain ⟨wo, rfl⟩ : ∃ z : World, z = wr := ⟨_, rfl⟩
    have HQ := Lib.hid Q
    have HWI := Lib.hid WI
    clear Q WI
    by_cases hlt : i < m
    · have him : (i : Int) < m := by omega
      have hin : i < n := by omega
      have hiB : i < 256 := by omega
      obtain ⟨b0, o0, hA0, hb0, hc0⟩ := (HS.out.ext (x1.trans x1r)).cell (k := i) hin
      obtain ⟨bn, hbn⟩ : ∃ bn : Nat, bs.getD i 0 = bn := ⟨(bs.getD i 0).toNat, by have := (HS.out.byts.getD i).1; omega⟩
      have hbn8 : bn < 256 := by have := (HS.out.byts.getD i).2; omega
      rw [hbn] at hc0
      subst hA0
      obtain ⟨td, htd⟩ : ∃ td, td = toldN ts nt i := ⟨_, rfl⟩
      have HTD := Lib.hid htd
      clear htd hbn
      go_upto_block 2 with (fail)
      clear hc0
      go_cut [10] (fun v wx => ∃ (s : QS) (ws : List Rp), WQx w1.heap.size wx g gL s la lb v ws (.slice none 0 0) [] ∧ Wi km s la lb ws ∧ Ext w1 wx)
      case first =>
        go_wp2_with fail
        go_loopw [10, 14] (fun v v14 wr => ∃ (k : Nat) (s : QS) (ws : List Rp), v14 = .int .u8 k ∧ k ≤ td ∧ WQx w1.heap.size wr g gL s la lb v ws (.slice none 0 0) [] ∧ Wi km s la lb ws ∧ Ext w1 wr) (fun _ v14 _ => td - (intOf v14).toNat)
        case atStart => exact ⟨0, _, _, rfl, Nat.zero_le _, HQ.out, HWI.out, x1r⟩
        case round =>
          obtain ⟨k, s2, w2s, rfl, hk, Q, WI, x1q⟩ := hrel
          obtain ⟨wi, rfl⟩ : ∃ z : World, z = wr := ⟨_, rfl⟩
          have HQi := Lib.hid Q
          have HWi := Lib.hid WI
          clear Q WI
          by_cases hnt : i < nt
          · have hntI : (i : Int) < nt := by omega
            obtain ⟨b1, o1, hA1, hb1, hc1⟩ := (HT.out.ext (x1.trans x1q)).cell (k := i) hnt
            obtain ⟨tn, htn⟩ : ∃ tn : Nat, ts.getD i 0 = tn := ⟨(ts.getD i 0).toNat, by have := (HT.out.byts.getD i).1; omega⟩
            have htn8 : tn < 256 := by have := (HT.out.byts.getD i).2; omega
            have htd8 : tn % 8 = td := by
              have := HTD.out
              unfold toldN at this
              rw [if_pos hnt, htn] at this
              omega
            have htdT : (tn : Int).tmod 8 = (td : Int) := by rw [Int.tmod_eq_emod_of_nonneg (by omega)]; omega
            have htdI : (tn : Int) % 8 = (td : Int) := by omega
            rw [htn] at hc1
            subst hA1
            have HC1 := Lib.hid hc1
            clear hc1 htn
            by_cases hkt : k < td
            · have hktI : (k : Int) < td := by omega
              have hc1 := HC1.out
              have hkb := wr8 (i := k + 1) (by omega)
              have hkb9 : k + 1 < 256 := by omega
              go_upto_region 13 with (fail)
              clear hc1
              rcases hws : w2s with _ | ⟨x, w2t⟩
              · have h0 : s2.l = [] := by rw [← HWi.out.p, hws]; rfl
                obtain ⟨vA, vc, rfl, hvc, hvm⟩ := (Classical.choose_spec HQi.out).row.form
                rw [show w2s.length = 0 by rw [hws]; rfl]
                have HN := Lib.hid (HQi.out.next0 h0)
                have H0 := Lib.hid (And.intro hws h0)
                clear hws h0 hvc hvm
                go_upto_region 14 with (first | (go_at_call 14; (refine HN.out.mono ?_); rintro e w7 ⟨rfl, x7, Q7⟩; have HQ7 := Lib.hid Q7; clear Q7) | refine wpList_stnew rfl 38 _ _ rfl rfl Rp.zero.vals rfl rfl size38 rfl (rp_one Rp.zero) ?_)
                obtain ⟨w8, hw8⟩ : ∃ V, V = w7.alloc (.cells Rp.zero.vals.toArray 38) := ⟨_, rfl⟩
                have x8 : Ext w7 w8 := by rw [hw8]; exact (Ext.refl _).alloc _
                rw [← hw8]
                clear hw8
                refine wp_region_held_drew (S := Ext w8) (by kernel_rfl) ((Ext.refl _).drew) (fun hHeld => ?_)
                obtain ⟨wD1, hwD⟩ : ∃ V, V = World.drew w8 := ⟨_, rfl⟩
                rw [← hwD]
                clear hHeld
                have zz0 : Ext w8 wD1 := by rw [hwD]; exact (Ext.refl _).drew
                clear hwD
                refine wpAnyH_imp (S' := Ext wD1) (fun W h => Ext.trans zz0 h) _ _ _ _ ?_
                have hHeld := Ext.refl wD1
                refine wpAnyH_take (i := 0) (oi := { dst := some 71, op := Op.move (Operand.tmp 16), type := 4, pos := "law.go:96", after := #[], guard := none }) (v := ?vv2_14_0) rfl (by kernel_rfl) (by kernel_rfl) (by kernel_rfl) (fun _ _ _ h => h) (Or.inl ⟨by rfl, ?yy2_14_0⟩) hHeld ?_
                case yy2_14_0 => (intro W hx; go_simp; try with_reducible rfl)
                simp only [Act.put, List.setIfInBounds_toArray, List.set_cons_zero, List.set_cons_succ]
                refine wpAnyH_take (i := 1) (oi := { dst := some 72, op := Op.move (Operand.tmp 10), type := 32, pos := "law.go:96", after := #[], guard := none }) (v := ?vv3_14_1) rfl (by kernel_rfl) (by kernel_rfl) (by kernel_rfl) (fun _ _ _ h => h) (Or.inl ⟨by rfl, ?yy3_14_1⟩) hHeld ?_
                case yy3_14_1 => (intro W hx; go_simp; try with_reducible rfl)
                simp only [Act.put, List.setIfInBounds_toArray, List.set_cons_zero, List.set_cons_succ]
                refine wpAnyH_take (i := 2) (oi := { dst := some 73, op := Op.call { callee := Callee.builtin Builtin.len, args := #[Operand.tmp 72], argTypes := #[32] }, type := 3, pos := "law.go:96", after := #[{ on := 1, ground := Ground.data }], guard := none }) (v := ?vv4_14_2) rfl (by kernel_rfl) (by kernel_rfl) (by kernel_rfl) (fun _ _ _ h => h) (Or.inl ⟨by rfl, ?yy4_14_2⟩) hHeld ?_
                case yy4_14_2 => (intro W hx; go_simp; try with_reducible rfl)
                simp only [Act.put, List.setIfInBounds_toArray, List.set_cons_zero, List.set_cons_succ]
                refine wpAnyH_take (i := 3) (oi := { dst := some 74, op := Op.binOp BinOp.gtr 3 (Operand.tmp 73) (Operand.const (Value.int IntKind.i64 0)) 3, type := 4, pos := "law.go:96", after := #[{ on := 2, ground := Ground.data }], guard := none }) (v := ?vv5_14_3) rfl (by kernel_rfl) (by kernel_rfl) (by kernel_rfl) (fun _ _ _ h => h) (Or.inl ⟨by rfl, ?yy5_14_3⟩) hHeld ?_
                case yy5_14_3 => (intro W hx; go_simp; try with_reducible rfl)
                simp only [Act.put, List.setIfInBounds_toArray, List.set_cons_zero, List.set_cons_succ]
                refine wpAnyH_take (i := 4) (oi := { dst := some 75, op := Op.binOp BinOp.neq 4 (Operand.tmp 71) (Operand.tmp 74) 4, type := 4, pos := "law.go:96", after := #[{ on := 0, ground := Ground.data }, { on := 3, ground := Ground.data }], guard := none }) (v := ?vv6_14_4) rfl (by kernel_rfl) (by kernel_rfl) (by kernel_rfl) (fun _ _ _ h => h) (Or.inl ⟨by rfl, ?yy6_14_4⟩) hHeld ?_
                case yy6_14_4 => (intro W hx; go_simp; try with_reducible rfl)
                simp only [Act.put, List.setIfInBounds_toArray, List.set_cons_zero, List.set_cons_succ]
                refine wpAnyH_take (i := 5) (oi := { dst := some 76, op := Op.move (Operand.tmp 75), type := 4, pos := "law.go:96", after := #[{ on := 4, ground := Ground.data }], guard := none }) (v := ?vv7_14_5) rfl (by kernel_rfl) (by kernel_rfl) (by kernel_rfl) (fun _ _ _ h => h) (Or.inl ⟨by rfl, ?yy7_14_5⟩) hHeld ?_
                case yy7_14_5 => (intro W hx; go_simp; try with_reducible rfl)
                simp only [Act.put, List.setIfInBounds_toArray, List.set_cons_zero, List.set_cons_succ]
                refine wpAnyH_take (i := 6) (oi := { dst := some 77, op := Op.move (Operand.tmp 16), type := 4, pos := "law.go:96", after := #[{ on := 5, ground := Ground.guard }], guard := some (5, false) }) (v := ?vv8_14_6) rfl (by kernel_rfl) (by kernel_rfl) (by kernel_rfl) (fun _ _ _ h => h) (Or.inl ⟨by rfl, ?yy8_14_6⟩) hHeld ?_
                case yy8_14_6 => (intro W hx; go_simp; try with_reducible rfl)
                simp only [Act.put, List.setIfInBounds_toArray, List.set_cons_zero, List.set_cons_succ]
                refine wpAnyH_take (i := 7) (oi := { dst := some 78, op := Op.move (Operand.tmp 77), type := 4, pos := "law.go:96", after := #[{ on := 6, ground := Ground.data }, { on := 5, ground := Ground.chain }, { on := 5, ground := Ground.guard }], guard := some (5, false) }) (v := ?vv9_14_7) rfl (by kernel_rfl) (by kernel_rfl) (by kernel_rfl) (fun _ _ _ h => h) (Or.inl ⟨by rfl, ?yy9_14_7⟩) hHeld ?_
                case yy9_14_7 => (intro W hx; go_simp; try with_reducible rfl)
                simp only [Act.put, List.setIfInBounds_toArray, List.set_cons_zero, List.set_cons_succ]
                refine wpAnyH_take (i := 8) (oi := { dst := some 79, op := Op.load 38 (Operand.tmp 15), type := 38, pos := "law.go:96", after := #[{ on := 7, ground := Ground.guard }], guard := some (7, true) }) (v := undef) rfl (by kernel_rfl) (by kernel_rfl) (by kernel_rfl) (fun _ _ _ h => h) (Or.inr ⟨by rfl, rfl⟩) hHeld ?_
                simp only [Act.put, List.setIfInBounds_toArray, List.set_cons_zero, List.set_cons_succ]
                refine wpAnyH_take (i := 9) (oi := { dst := some 80, op := Op.buildSlice 32 1 #[(0, Operand.tmp 79)], type := 32, pos := "law.go:96", after := #[{ on := 8, ground := Ground.data }, { on := 7, ground := Ground.guard }], guard := some (7, true) }) (v := undef) rfl (by kernel_rfl) (by kernel_rfl) (by kernel_rfl) (fun _ _ _ h => h) (Or.inr ⟨by rfl, rfl⟩) hHeld ?_
                simp only [Act.put, List.setIfInBounds_toArray, List.set_cons_zero, List.set_cons_succ]
                refine wpAnyH_take (i := 10) (oi := { dst := some 81, op := Op.move (Operand.tmp 10), type := 32, pos := "law.go:96", after := #[{ on := 7, ground := Ground.guard }], guard := some (7, true) }) (v := undef) rfl (by kernel_rfl) (by kernel_rfl) (by kernel_rfl) (fun _ _ _ h => h) (Or.inr ⟨by rfl, rfl⟩) hHeld ?_
                simp only [Act.put, List.setIfInBounds_toArray, List.set_cons_zero, List.set_cons_succ]
                refine wpAnyH_take (i := 11) (oi := { dst := some 82, op := Op.slice 32 (Operand.tmp 81) none (some (Operand.const (Value.int IntKind.i64 1))) none, type := 32, pos := "law.go:96", after := #[{ on := 10, ground := Ground.data }, { on := 7, ground := Ground.guard }], guard := some (7, true) }) (v := undef) rfl (by kernel_rfl) (by kernel_rfl) (by kernel_rfl) (fun _ _ _ h => h) (Or.inr ⟨by rfl, rfl⟩) hHeld ?_
                simp only [Act.put, List.setIfInBounds_toArray, List.set_cons_zero, List.set_cons_succ]
                refine wpAnyH_take (i := 12) (oi := { dst := some 83, op := Op.call { callee := Callee.value (Operand.func 16), args := #[Operand.tmp 80, Operand.tmp 82], argTypes := #[32, 32] }, type := 4, pos := "law.go:96", after := #[{ on := 9, ground := Ground.data }, { on := 11, ground := Ground.data }, { on := 7, ground := Ground.chain }, { on := 7, ground := Ground.guard }], guard := some (7, true) }) (v := undef) rfl (by kernel_rfl) (by kernel_rfl) (by kernel_rfl) (fun _ _ _ h => h) (Or.inr ⟨by rfl, rfl⟩) hHeld ?_
                simp only [Act.put, List.setIfInBounds_toArray, List.set_cons_zero, List.set_cons_succ]
                refine wpAnyH_take (i := 13) (oi := { dst := some 84, op := Op.unOp UnOp.not 4 (Operand.tmp 83), type := 4, pos := "law.go:96", after := #[{ on := 12, ground := Ground.data }, { on := 7, ground := Ground.guard }], guard := some (7, true) }) (v := undef) rfl (by kernel_rfl) (by kernel_rfl) (by kernel_rfl) (fun _ _ _ h => h) (Or.inr ⟨by rfl, rfl⟩) hHeld ?_
                simp only [Act.put, List.setIfInBounds_toArray, List.set_cons_zero, List.set_cons_succ]
                refine wpAnyH_take (i := 14) (oi := { dst := some 85, op := Op.pick (Operand.tmp 78) (Operand.tmp 84) (Operand.const (Value.bool false)), type := 4, pos := "law.go:96", after := #[{ on := 7, ground := Ground.data }, { on := 13, ground := Ground.data }, { on := 5, ground := Ground.guard }], guard := some (5, false) }) (v := ?vv10_14_14) rfl (by kernel_rfl) (by kernel_rfl) (by kernel_rfl) (fun _ _ _ h => h) (Or.inl ⟨by rfl, ?yy10_14_14⟩) hHeld ?_
                case yy10_14_14 => (intro W hx; go_simp; try with_reducible rfl)
                simp only [Act.put, List.setIfInBounds_toArray, List.set_cons_zero, List.set_cons_succ]
                refine wpAnyH_take (i := 15) (oi := { dst := some 86, op := Op.pick (Operand.tmp 76) (Operand.const (Value.bool true)) (Operand.tmp 85), type := 4, pos := "law.go:96", after := #[{ on := 5, ground := Ground.data }, { on := 14, ground := Ground.data }], guard := none }) (v := ?vv11_14_15) rfl (by kernel_rfl) (by kernel_rfl) (by kernel_rfl) (fun _ _ _ h => h) (Or.inl ⟨by rfl, ?yy11_14_15⟩) hHeld ?_
                case yy11_14_15 => (intro W hx; go_simp; try with_reducible rfl)
                simp only [Act.put, List.setIfInBounds_toArray, List.set_cons_zero, List.set_cons_succ]
                refine wpAnyH_done (by kernel_rfl) ?_ _
                have zend := zz0.trans hHeld
                go_wp2
                go_roundw
                case rel => exact ⟨k + 1, s2, w2s, by go_num, by omega, by have := HQ7.out.ext (x8.trans zend); rw [show w2s.length = 0 by rw [H0.out.1]; rfl] at this; exact this, HWi.out, (x1q.trans x7).trans (x8.trans zend)⟩
                case measure => simp [intOf]; omega
              · have hp : s2.l = x.pk :: w2t.map Rp.pk := by rw [← HWi.out.p, hws]; rfl
                subst hws
                obtain ⟨vA, vc, rfl, hvc, hvm⟩ := (Classical.choose_spec HQi.out).row.form
                have HN := Lib.hid (HQi.out.next hp)
                clear hp
                have hvn : 0 < (x :: w2t).length := by simp
                have hvn1 : 1 ≤ (x :: w2t).length := by simp
                have hvl := HWi.out.len
                have hv64 := HQi.out.sok.n
                have hv64' := HQi.out.sok.m2
                obtain ⟨vn, hvnn⟩ : ∃ z, z = (x :: w2t).length := ⟨_, rfl⟩
                rw [← hvnn] at hvc hvn hvn1 hvl ⊢
                have hv0I : (0 : Int) < vn := by omega
                have hvc1 : 1 ≤ vc := by omega
                have hvc1I : (1 : Int) ≤ vc := by omega
                have HVN := Lib.hid (And.intro hvnn (And.intro hvc hvm))
                clear hvnn hvc hvl hv64 hv64' hvm
                go_upto_region 14 with (first | (go_at_call 14; (refine HN.out.mono ?_); rintro e w7 ⟨r7, hr7, rfl, hok7, Q7, X7⟩; have HQ7 := Lib.hid Q7; have HR7 := Lib.hid (And.intro hr7 (And.intro hok7 (X7 w1 rfl x1q))); clear Q7 hr7 hok7 X7) | refine wpList_stnew rfl 38 _ _ rfl rfl r7.vals rfl rfl size38 rfl (rp_one r7) ?_)
                obtain ⟨w8, hw8⟩ : ∃ V, V = w7.alloc (.cells r7.vals.toArray 38) := ⟨_, rfl⟩
                have k8 : w8.heap[w7.heap.size]? = some (.cells r7.vals.toArray 38 (0, 0)) := by rw [hw8]; exact heap_alloc_new _ _
                have x8 : Ext w7 w8 := by rw [hw8]; exact (Ext.refl _).alloc _
                rw [← hw8]
                have HQ8 := Lib.hid (HQ7.out.ext x8)
                clear hw8
                have hrow := (Classical.choose_spec HQ8.out).row
                have hvle : 1 ≤ (x :: w2t).length := by simp
                have hsh := hrow.shows.take (k := 1) hvle
                rw [rps_take] at hsh
                have hsh : Shows w8 3 vA 1 (rps [x]) := hsh
                have HSH := Lib.hid hsh
                have hox := ((Classical.choose_spec HQ8.out).ok x (by simp)).1
                have HOX := Lib.hid hox
                obtain ⟨A', hA', own', at'⟩ := hrow.tail (by simp)
                have hdr : (rps (x :: w2t)).drop 3 = rps w2t := rps_drop (x :: w2t) 1
                rw [hdr] at own'
                rw [show (x :: w2t).length - 1 = w2t.length by simp] at own' at'
                have HTL := Lib.hid (show WQx w1.heap.size w8 g gL s2.next la lb (.slice A' w2t.length (vc - 1)) w2t (.slice none 0 0) [] from ⟨_, (Classical.choose_spec HQ8.out).tail own' at'⟩)
                have HV2 := Lib.hid (show vn - 1 = w2t.length by rw [HVN.out.1]; simp)
                have HHA := Lib.hid hA'
                clear hrow hvle hsh hox own' at' hdr hA'
                obtain ⟨vb, vo, hvA, _, _⟩ := Shows.row rp_len (by omega) HSH.out rfl (i := 0) (a := x) rfl
                subst hvA
                have hA' := HHA.out
                simp only [Option.map_some, Addr.add_lit] at hA'
                refine wp_region_held_drew (S := Ext w8) (by kernel_rfl) ((Ext.refl _).drew) (fun hHeld => ?_)
                obtain ⟨wD, hwD⟩ : ∃ V, V = World.drew w8 := ⟨_, rfl⟩
                rw [← hwD]
                clear hHeld
                have zz0 : Ext w8 wD := by rw [hwD]; exact (Ext.refl _).drew
                clear hwD
                refine wpAnyH_imp (S' := Ext wD) (fun W h => Ext.trans zz0 h) _ _ _ _ ?_
                have hHeld := Ext.refl wD
                refine wpAnyH_take (i := 0) (oi := { dst := some 71, op := Op.move (Operand.tmp 16), type := 4, pos := "law.go:96", after := #[], guard := none }) (v := ?vv13_14_0) rfl (by kernel_rfl) (by kernel_rfl) (by kernel_rfl) (fun _ _ _ h => h) (Or.inl ⟨by rfl, ?yy13_14_0⟩) hHeld ?_
                case yy13_14_0 => (intro W hx; go_simp; try with_reducible rfl)
                simp only [Act.put, List.setIfInBounds_toArray, List.set_cons_zero, List.set_cons_succ]
                refine wpAnyH_take (i := 1) (oi := { dst := some 72, op := Op.move (Operand.tmp 10), type := 32, pos := "law.go:96", after := #[], guard := none }) (v := ?vv14_14_1) rfl (by kernel_rfl) (by kernel_rfl) (by kernel_rfl) (fun _ _ _ h => h) (Or.inl ⟨by rfl, ?yy14_14_1⟩) hHeld ?_
                case yy14_14_1 => (intro W hx; go_simp; try with_reducible rfl)
                simp only [Act.put, List.setIfInBounds_toArray, List.set_cons_zero, List.set_cons_succ]
                refine wpAnyH_take (i := 2) (oi := { dst := some 73, op := Op.call { callee := Callee.builtin Builtin.len, args := #[Operand.tmp 72], argTypes := #[32] }, type := 3, pos := "law.go:96", after := #[{ on := 1, ground := Ground.data }], guard := none }) (v := ?vv15_14_2) rfl (by kernel_rfl) (by kernel_rfl) (by kernel_rfl) (fun _ _ _ h => h) (Or.inl ⟨by rfl, ?yy15_14_2⟩) hHeld ?_
                case yy15_14_2 => (intro W hx; go_simp; try with_reducible rfl)
                simp only [Act.put, List.setIfInBounds_toArray, List.set_cons_zero, List.set_cons_succ]
                refine wpAnyH_take (i := 3) (oi := { dst := some 74, op := Op.binOp BinOp.gtr 3 (Operand.tmp 73) (Operand.const (Value.int IntKind.i64 0)) 3, type := 4, pos := "law.go:96", after := #[{ on := 2, ground := Ground.data }], guard := none }) (v := ?vv16_14_3) rfl (by kernel_rfl) (by kernel_rfl) (by kernel_rfl) (fun _ _ _ h => h) (Or.inl ⟨by rfl, ?yy16_14_3⟩) hHeld ?_
                case yy16_14_3 => (intro W hx; go_simp; try with_reducible rfl)
                simp only [Act.put, List.setIfInBounds_toArray, List.set_cons_zero, List.set_cons_succ]
                refine wpAnyH_take (i := 4) (oi := { dst := some 75, op := Op.binOp BinOp.neq 4 (Operand.tmp 71) (Operand.tmp 74) 4, type := 4, pos := "law.go:96", after := #[{ on := 0, ground := Ground.data }, { on := 3, ground := Ground.data }], guard := none }) (v := ?vv17_14_4) rfl (by kernel_rfl) (by kernel_rfl) (by kernel_rfl) (fun _ _ _ h => h) (Or.inl ⟨by rfl, ?yy17_14_4⟩) hHeld ?_
                case yy17_14_4 => (intro W hx; go_simp; try with_reducible rfl)
                simp only [Act.put, List.setIfInBounds_toArray, List.set_cons_zero, List.set_cons_succ]
                refine wpAnyH_take (i := 5) (oi := { dst := some 76, op := Op.move (Operand.tmp 75), type := 4, pos := "law.go:96", after := #[{ on := 4, ground := Ground.data }], guard := none }) (v := ?vv18_14_5) rfl (by kernel_rfl) (by kernel_rfl) (by kernel_rfl) (fun _ _ _ h => h) (Or.inl ⟨by rfl, ?yy18_14_5⟩) hHeld ?_
                case yy18_14_5 => (intro W hx; go_simp; try with_reducible rfl)
                simp only [Act.put, List.setIfInBounds_toArray, List.set_cons_zero, List.set_cons_succ]
                refine wpAnyH_take (i := 6) (oi := { dst := some 77, op := Op.move (Operand.tmp 16), type := 4, pos := "law.go:96", after := #[{ on := 5, ground := Ground.guard }], guard := some (5, false) }) (v := ?vv19_14_6) rfl (by kernel_rfl) (by kernel_rfl) (by kernel_rfl) (fun _ _ _ h => h) (Or.inl ⟨by rfl, ?yy19_14_6⟩) hHeld ?_
                case yy19_14_6 => (intro W hx; go_simp; try with_reducible rfl)
                simp only [Act.put, List.setIfInBounds_toArray, List.set_cons_zero, List.set_cons_succ]
                refine wpAnyH_take (i := 7) (oi := { dst := some 78, op := Op.move (Operand.tmp 77), type := 4, pos := "law.go:96", after := #[{ on := 6, ground := Ground.data }, { on := 5, ground := Ground.chain }, { on := 5, ground := Ground.guard }], guard := some (5, false) }) (v := ?vv20_14_7) rfl (by kernel_rfl) (by kernel_rfl) (by kernel_rfl) (fun _ _ _ h => h) (Or.inl ⟨by rfl, ?yy20_14_7⟩) hHeld ?_
                case yy20_14_7 => (intro W hx; go_simp; try with_reducible rfl)
                simp only [Act.put, List.setIfInBounds_toArray, List.set_cons_zero, List.set_cons_succ]
                refine wpAnyH_take (i := 8) (oi := { dst := some 79, op := Op.load 38 (Operand.tmp 15), type := 38, pos := "law.go:96", after := #[{ on := 7, ground := Ground.guard }], guard := some (7, true) }) (v := ?vv21_14_8) rfl (by kernel_rfl) (by kernel_rfl) (by kernel_rfl) (fun _ _ _ h => h) (Or.inl ⟨by rfl, ?yy21_14_8⟩) hHeld ?_
                case yy21_14_8 => (intro W hx; have hz := zz0.trans hx; refine ld_op (r := r7) (rpAt ((hz.block _ (blk_lt k8)).trans k8)) ?_; rfl)
                simp only [Act.put, List.setIfInBounds_toArray, List.set_cons_zero, List.set_cons_succ]
                refine wpAnyH_take (i := 10) (oi := { dst := some 81, op := Op.move (Operand.tmp 10), type := 32, pos := "law.go:96", after := #[{ on := 7, ground := Ground.guard }], guard := some (7, true) }) (v := ?vv22_14_10) rfl (by kernel_rfl) (by kernel_rfl) (by kernel_rfl) (fun _ _ _ h => h) (Or.inl ⟨by rfl, ?yy22_14_10⟩) hHeld ?_
                case yy22_14_10 => (intro W hx; go_simp; try with_reducible rfl)
                simp only [Act.put, List.setIfInBounds_toArray, List.set_cons_zero, List.set_cons_succ]
                refine wpAnyH_take (i := 11) (oi := { dst := some 82, op := Op.slice 32 (Operand.tmp 81) none (some (Operand.const (Value.int IntKind.i64 1))) none, type := 32, pos := "law.go:96", after := #[{ on := 10, ground := Ground.data }, { on := 7, ground := Ground.guard }], guard := some (7, true) }) (v := ?vv23_14_11) rfl (by kernel_rfl) (by kernel_rfl) (by kernel_rfl) (fun _ _ _ h => h) (Or.inl ⟨by rfl, ?yy23_14_11⟩) hHeld ?_
                case yy23_14_11 => (intro W hx; go_simp; try with_reducible rfl)
                simp only [Act.put, List.setIfInBounds_toArray, List.set_cons_zero, List.set_cons_succ]
                refine wpAnyH_ready (rs := [9]) (by kernel_rfl) (by simp) (AllReadyH.cons rfl (fun K hK => ?_) AllReadyH.nil)
                rw [if_pos (by rfl)]
                refine wp_bsR (r := r7) _ rfl rfl ?_; intro wB hwB; have xB : Ext wD wB := (by rw [hwB]; exact (Ext.refl _).alloc _); have sh1 := shows_one (w := wD) (r := r7) 38; rw [← hwB] at sh1; clear hwB; have sh2 := HSH.out.ext (zz0.trans xB); have or7 := HR7.out.2.1.ext (x8.trans (zz0.trans xB)); have ox := HOX.out.ext (zz0.trans xB)
                simp only [Act.put, List.setIfInBounds_toArray, List.set_cons_zero, List.set_cons_succ]
                refine hK.out _ _ xB (fun hHeld => ?_)
                clear hK K
                refine wpAnyH_ready (rs := [12]) (by kernel_rfl) (by simp) (AllReadyH.cons rfl (fun K hK => ?_) AllReadyH.nil)
                go_simp
                go_wp2_with (go_at_call 16; (refine (same_true 1 vc (xs := [r7]) (ys := [x]) sh1 sh2 rfl (by omega) (fun y hy => by simp at hy; subst hy; exact or7) (fun y hy => by simp at hy; subst hy; exact ox) (by simp [HR7.out.1])).mono ?_); rintro e w9 ⟨rfl, x9'⟩; have x9 := xB.trans x9')
                refine hK.out _ _ x9 (fun hHeld => ?_)
                clear hK K
                refine wpAnyH_imp (S' := Ext w9) (fun W h => Ext.trans x9 h) _ _ _ _ ?_
                replace hHeld := Ext.refl w9
                have zz2 := zz0.trans x9
                refine wpAnyH_take (i := 13) (oi := { dst := some 84, op := Op.unOp UnOp.not 4 (Operand.tmp 83), type := 4, pos := "law.go:96", after := #[{ on := 12, ground := Ground.data }, { on := 7, ground := Ground.guard }], guard := some (7, true) }) (v := ?vv24_14_13) rfl (by kernel_rfl) (by kernel_rfl) (by kernel_rfl) (fun _ _ _ h => h) (Or.inl ⟨by rfl, ?yy24_14_13⟩) hHeld ?_
                case yy24_14_13 => (intro W hx; go_simp; try with_reducible rfl)
                simp only [Act.put, List.setIfInBounds_toArray, List.set_cons_zero, List.set_cons_succ]
                refine wpAnyH_take (i := 14) (oi := { dst := some 85, op := Op.pick (Operand.tmp 78) (Operand.tmp 84) (Operand.const (Value.bool false)), type := 4, pos := "law.go:96", after := #[{ on := 7, ground := Ground.data }, { on := 13, ground := Ground.data }, { on := 5, ground := Ground.guard }], guard := some (5, false) }) (v := ?vv25_14_14) rfl (by kernel_rfl) (by kernel_rfl) (by kernel_rfl) (fun _ _ _ h => h) (Or.inl ⟨by rfl, ?yy25_14_14⟩) hHeld ?_
                case yy25_14_14 => (intro W hx; go_simp; try with_reducible rfl)
                simp only [Act.put, List.setIfInBounds_toArray, List.set_cons_zero, List.set_cons_succ]
                refine wpAnyH_take (i := 15) (oi := { dst := some 86, op := Op.pick (Operand.tmp 76) (Operand.const (Value.bool true)) (Operand.tmp 85), type := 4, pos := "law.go:96", after := #[{ on := 5, ground := Ground.data }, { on := 14, ground := Ground.data }], guard := none }) (v := ?vv26_14_15) rfl (by kernel_rfl) (by kernel_rfl) (by kernel_rfl) (fun _ _ _ h => h) (Or.inl ⟨by rfl, ?yy26_14_15⟩) hHeld ?_
                case yy26_14_15 => (intro W hx; go_simp; try with_reducible rfl)
                simp only [Act.put, List.setIfInBounds_toArray, List.set_cons_zero, List.set_cons_succ]
                refine wpAnyH_done (by kernel_rfl) ?_ _
                have zend := zz2.trans hHeld
                go_wp2
                go_roundw
                case rel => exact ⟨k + 1, s2.next, w2t, by go_num, by omega, by rw [HV2.out]; exact HTL.out.ext zend, HWi.out.next, HR7.out.2.2.trans (x8.trans zend)⟩
                case measure => simp [intOf]; omega
            · have hktI : ¬ (k : Int) < td := by omega
              have hc1 := HC1.out
              go_wp2
              go_meet
              case rel => exact ⟨_, _, HQi.out, HWi.out, x1q⟩
          · have hntI : ¬ (i : Int) < nt := by omega
            go_wp2
            go_meet
            case rel => exact ⟨_, _, HQi.out, HWi.out, x1q⟩
      case rest =>
        obtain ⟨s3, w3s, Q, WI, x1c⟩ := hcut
        obtain ⟨wo, rfl⟩ : ∃ z : World, z = wc := ⟨_, rfl⟩
        have HQ3 := Lib.hid Q
        have HWI3 := Lib.hid WI
        clear Q WI
        obtain ⟨li, hli, hliT, hli2⟩ : ∃ x : Nat, (bn : Int) / 4 % 2 = (x : Int) ∧ ((bn / 4 : Nat) : Int).tmod 2 = (x : Int) ∧ x < 2 := ⟨bn / 4 % 2, by omega, by rw [Int.tmod_eq_emod_of_nonneg (by omega)]; omega, Nat.mod_lt _ (by omega)⟩
        obtain ⟨k0', hkk, hkkT, hkk4⟩ : ∃ x : Nat, (bn : Int) % 4 = (x : Int) ∧ (bn : Int).tmod 4 = (x : Int) ∧ x < 4 := ⟨bn % 4, by omega, by rw [Int.tmod_eq_emod_of_nonneg (by omega)]; omega, Nat.mod_lt _ (by omega)⟩
        obtain ⟨kk, hkk1⟩ : ∃ z, z = k0' + 1 := ⟨_, rfl⟩
        have hkkI : (k0' : Int) + 1 = (kk : Int) := by omega
        have ukk := wr8 (i := kk) (by omega)
        have hkb1 : 1 ≤ kk := by omega
        have hkb4 : kk ≤ 4 := by omega
        obtain ⟨z8, hz8⟩ : ∃ z, z = 8 * li := ⟨_, rfl⟩
        have hz8I : (8 : Int) * (li : Int) = (z8 : Int) := by omega
        have hz88 : z8 ≤ 8 := by omega
        have HZ8 := Lib.hid (And.intro hz8 hz8I)
        clear hz8 hz8I hkk1
        go_upto_region 21 with (fail)
        rw [hli]
        clear hli hliT hkk hkkT hkkI ukk
        go_loopw [18, 97] (fun pv v wq => ∃ (lv : Value) (j : Nat) (xs : List Rp), lv = pv ∧ v = .int .u8 j ∧ j ≤ kk ∧ RpL wq wo.heap.size lv xs ∧ xs.map Rp.pk = wholeL i li j ∧ Ext wo wq) (fun _ v _ => kk - (intOf v).toNat)
        case atStart => exact ⟨_, 0, [], rfl, rfl, Nat.zero_le _, RpL.nil _ _, rfl, Ext.refl _⟩
        case round =>
          obtain ⟨lv, j, xs, rfl, rfl, hj, hL, hpk, xq⟩ := hrel
          obtain ⟨wi, rfl⟩ : ∃ z : World, z = wr := ⟨_, rfl⟩
          by_cases hjt : j < kk
          · have hjk : (j : Int) < kk := by omega
            have hj8 : j < 256 := by omega
            have uj := wr8 hj8
            have uj1 := wr8 (i := j + 1) (by omega)
            have ui := wr8 hiB
            have hz8I := HZ8.out.2
            have uz8 := wri z8 (by omega)
            have uz8b := wr8 (i := z8) (by omega)
            obtain ⟨zj, hzj⟩ : ∃ z, z = z8 + j := ⟨_, rfl⟩
            have hzjI : (z8 : Int) + (j : Int) = (zj : Int) := by omega
            have uzj := wr8 (i := zj) (by omega)
            obtain ⟨w4, hw4⟩ : ∃ V, V = wi.alloc (.cells #[.int .u8 (i : Int), .int .u8 (j : Int)] 5) := ⟨_, rfl⟩
            have x4 : Ext wi w4 := by rw [hw4]; exact (Ext.refl _).alloc _
            have rd4 : Rd w4 (some ⟨wi.heap.size, 0, none⟩) 2 [(i : Int), (j : Int)] := by rw [hw4]; exact rd_new (cs := [(i : Int), (j : Int)]) 5 rfl (by intro b hb; simp at hb; rcases hb with rfl | rfl <;> omega)
            obtain ⟨r5, hr5⟩ : ∃ r5 : Rp, r5 = ⟨4, (zj : Int), some ⟨wi.heap.size, 0, none⟩, 2, 2, [(i : Int), (j : Int)]⟩ := ⟨_, rfl⟩
            obtain ⟨w5, hw5⟩ : ∃ V, V = w4.alloc (.cells #[.int .u8 4, .int .u8 (zj : Int), .slice (some ⟨wi.heap.size, 0, none⟩) 2 2] 38) := ⟨_, rfl⟩
            have x5 : Ext w4 w5 := by rw [hw5]; exact (Ext.refl _).alloc _
            have hs4 : w4.heap.size = wi.heap.size + 1 := by rw [hw4]; exact Array.size_push _
            have sh5 : Shows w5 3 (some ⟨wi.heap.size + 1, 0, none⟩) 1 (rps [r5]) := by rw [← hs4, hw5, hr5]; exact shows_one (r := ⟨4, (zj : Int), some ⟨wi.heap.size, 0, none⟩, 2, 2, [(i : Int), (j : Int)]⟩) 38
            have hL5 := hL.ext (x4.trans x5)
            have hxl : xs.length = j := by have := congrArg List.length hpk; rwa [List.length_map, whole_len] at this
            have own5 := hL5.own
            rw [hxl] at own5
            have hr5ok : r5.ok w5 ∧ r5.n ≤ 100000 := by rw [hr5]; exact ⟨⟨⟨by show (0 : Int) ≤ 4; decide, by show (4 : Int) < 256; decide⟩, ⟨Int.natCast_nonneg _, by show (zj : Int) < 256; omega⟩, rd4.ext x5, Nat.le_refl _, le_max (n := 2) (by omega)⟩, by show 2 ≤ 100000; omega⟩
            have hr5ne : ∀ ad, r5.A = some ad → wo.heap.size ≤ ad.block ∧ ad.block < w5.heap.size ∧ ∀ b, lv.ownBlock = some b → ad.block ≠ b := by
              rw [hr5]
              intro ad e
              injection e with e
              subst e
              have s4 : wi.heap.size < w4.heap.size := by omega
              exact ⟨xq.size, Nat.lt_of_lt_of_le s4 x5.size, fun b hb e2 => by have := (hL.own.lt b hb).2; simp at e2; omega⟩
            have HP := Lib.hid (And.intro hL5 (And.intro hr5ok (And.intro hr5ne (And.intro hxl (show r5.pk = ⟨4, ((8 * li + j : Nat) : Int), [(i : Int), (j : Int)]⟩ by rw [hr5, ← HZ8.out.1, ← hzj]; rfl)))))
            have HPK := Lib.hid hpk
            have hj9 : j < 9 := by omega
            clear hs4 hL hL5 hr5ok hr5ne hxl hpk hr5 rd4 hzj
            go_wp2_with (at_builtin; go_loud (rw [← hw4, ← hw5]; refine wpList_appB el32 rfl _ _ rfl own5 rfl sh5 rfl (rps_one _) (le_max (by omega)) (by omega) (by have := (x4.trans x5).size; have := xq.size; omega) ?_; intro v9 w9 own9 gr9 at9; obtain ⟨B9, c9, rfl, _, _⟩ := own9.form (by omega)))
            have hL9 := HP.out.1.app HP.out.2.1 HP.out.2.2.1 (by rw [HP.out.2.2.2.1]; exact own9) gr9 rfl at9
            have hx9 := Ext.of_grown (xq.trans (x4.trans x5)) gr9 (fun b e => (HP.out.1.own.lt b e).1)
            have HL9 := Lib.hid (And.intro hL9 hx9)
            clear own9 gr9 at9 hL9 hx9 own5 sh5
            go_roundw
            case rel => exact ⟨_, j + 1, _, rfl, by go_num, by omega, HL9.out.1, by rw [List.map_append, HPK.out, whole_succ]; simp [HP.out.2.2.2.2], HL9.out.2⟩
            case measure => simp [intOf]; omega
          · obtain rfl : j = kk := by omega
            have hxl : xs.length = j := by have := congrArg List.length hpk; rwa [List.length_map, whole_len] at this
            have hwx : WQx w1.heap.size wi g gL s3 la lb u10 w3s lv xs := by obtain ⟨F, h⟩ := HQ3.out; exact ⟨_, h.take xq hL x1c.size⟩
            obtain ⟨lA, lc, hlv, hlc, hlm, _⟩ := own_form hL.own
            obtain ⟨vA, vc, hv10, hvc, hvm⟩ := (Classical.choose_spec hwx).row.form
            rw [hxl] at hlv
            obtain ⟨gl, hgl⟩ : ∃ gl, lA = some ⟨gl, 0, none⟩ := by
              obtain ⟨gl, c9, e9, _⟩ := hL.own.form (by omega)
              rw [hlv] at e9
              injection e9 with e9
              exact ⟨gl, e9⟩
            subst hgl hlv hv10
            obtain ⟨x, xt, hxx⟩ : ∃ x xt, xs = x :: xt := by
              cases xs with
              | nil => simp at hxl; omega
              | cons x xt => exact ⟨x, xt, rfl⟩
            have HXX := Lib.hid hxx
            have hxc : x.code = (z8 : Int) := by
              have h1 := hpk
              rw [hxx] at h1
              have h2 : (wholeL i li j)[0]? = some ⟨4, ((8 * li + 0 : Nat) : Int), [(i : Int), ((0 : Nat) : Int)]⟩ := by simp [wholeL, List.getElem?_range hkb1]
              rw [← h1] at h2
              simp at h2
              have h3 := congrArg Pk.code h2
              have h4 := HZ8.out.1
              simp [Rp.pk] at h3
              omega
            have HXC := Lib.hid hxc
            obtain ⟨ln, hln⟩ : ∃ z, z = w3s.length := ⟨_, rfl⟩
            have hls := HWI3.out.len
            have hsn := HQ3.out.sok.n
            rw [HWI3.out.m] at hsn
            have hln64 : ln ≤ km := by omega
            have hkm64 : km ≤ 64 := HKM.out.2
            obtain ⟨fz, hfz⟩ : ∃ z, z = ln + j := ⟨_, rfl⟩
            have hfzI : (ln : Int) + (j : Int) = (fz : Int) := by omega
            have ufz := wri fz (by omega)
            have HLN := Lib.hid (And.intro hln (And.intro hls hfz))
            have HPUT := Lib.hid (whole_put (s := s3) (i := i) hkb1 hkb4 hli2 HWI3.out.m HWI3.out.f)
            have HWX := Lib.hid hwx
            have HPK := Lib.hid hpk
            have HXL := Lib.hid hxl
            have hlI2 : (li : Int) < 2 := by omega
            obtain ⟨hk0, hk0T, hkmI⟩ := HK0.out
            have uk0 := HKU.out.1
            have ukm := HKU.out.2
            rw [← hln]
            have HFZ := Lib.hid (show s3.l.length + j = fz by omega)
            have hlcj : j ≤ lc := by omega
            clear hL hwx hpk hxl hxx hxc hln hls hsn hfz hlc hlm hvc hvm
            by_cases hfit : km < fz
            · have hfI : ¬ (fz : Int) ≤ km := by omega
              have HPF := Lib.hid (show s3.put li (xs.map Rp.pk) = (false, ⟨km, s3.l, fl4 (if li = 0 then true else la) (if li = 1 then true else lb)⟩) by rw [HPK.out, HPUT.out, HFZ.out, if_pos hfit])
              have HFT := Lib.hid hfit
              clear hfit
              go_upto_region 29 with (go_at_call 12; (refine (HWX.out.put HXL.out.symm (by omega) li).mono ?_); rw [HPF.out]; rintro e w6 ⟨rfl, Q6, X6⟩)
              have HQ6 := Lib.hid (And.intro Q6 (X6 w1 rfl (x1c.trans xq)))
              obtain ⟨c6, f6, g6⟩ := wq_fl Q6 hli2
              clear Q6 X6 hk0 hk0T hkmI uk0 ukm hfzI ufz
              have HG6 := Lib.hid g6
              clear g6
              go_upto_region 34 with (fail)
              have HF6 := Lib.hid (show ∃ F, WQ w1.heap.size F (w6.setCell ⟨gL, li, none⟩ (.bool true)) g gL ⟨km, s3.l, fl4 (if li = 0 then true else la) (if li = 1 then true else lb)⟩ (if li = 0 then true else la) (if li = 1 then true else lb) (.slice vA ln vc) w3s (.slice none 0 0) [] by
                obtain ⟨F, h⟩ := HQ6.out.1
                have := (h.flag li true hli2).drop
                rw [← HLN.out.1] at this
                exact ⟨_, this⟩)
              clear c6 f6
              go_wp2
              go_roundw
              case rel => exact ⟨i + 1, _, _, _, w3s, by go_num, by omega, HF6.out, ⟨rfl, rfl, HWI3.out.p⟩, HQ6.out.2.setCell HG6.out _⟩
              case measure => simp [intOf]; omega
            · have hfI : (fz : Int) ≤ km := by omega
              have HPF := Lib.hid (show s3.put li (xs.map Rp.pk) = (true, ⟨km, s3.l ++ mark (fl1 la lb li) (xs.map Rp.pk), fl4 (if li = 0 then false else la) (if li = 1 then false else lb)⟩) by rw [HPK.out, HPUT.out, HFZ.out, if_neg hfit])
              have HFT := Lib.hid hfit
              clear hfit
              go_upto_region 30 with (go_at_call 12; (refine (HWX.out.put HXL.out.symm (by omega) li).mono ?_); rw [HPF.out]; rintro e w6 ⟨rfl, Q6, X6⟩)
              have HQ6 := Lib.hid (And.intro Q6 (X6 w1 rfl (x1c.trans xq)))
              obtain ⟨c6, f6, g6⟩ := wq_fl Q6 hli2
              clear Q6 X6 hk0 hk0T hkmI uk0 ukm hfzI ufz
              have HG6 := Lib.hid g6
              clear g6
              rcases hfl : fl1 la lb li with _ | _
              · rw [hfl] at c6
                have HFL := Lib.hid hfl
                clear hfl
                go_upto_region 33 with (fail)
                obtain ⟨w7, hw7⟩ : ∃ V, V = w6.setCell ⟨gL, li, none⟩ (.bool false) := ⟨_, rfl⟩
                have HF7 := Lib.hid (show WQx w1.heap.size w7 g gL ⟨km, s3.l ++ mark (fl1 la lb li) (xs.map Rp.pk), fl4 (if li = 0 then false else la) (if li = 1 then false else lb)⟩ (if li = 0 then false else la) (if li = 1 then false else lb) (.slice vA ln vc) w3s (.slice (some ⟨gl, 0, none⟩) j lc) xs by
                  obtain ⟨F, h⟩ := HQ6.out.1
                  have := h.flag li false hli2
                  rw [← hw7, ← HLN.out.1] at this
                  exact ⟨_, this⟩)
                have X7 := Lib.hid (show Ext w1 w7 by rw [hw7]; exact (HQ6.out.2).setCell HG6.out _)
                rw [← hw7]
                clear hw7 c6 f6
                have hrw := (Classical.choose_spec HF7.out).row
                rw [← HLN.out.1] at hrw
                have hlr := (Classical.choose_spec HF7.out).lrow
                rw [show (xs).length = j from HXL.out] at hlr
                have hls := Shows.of_own hlr
                have hbase : w1.heap.size ≤ w7.heap.size := X7.out.size
                have HLR := Lib.hid hlr
                clear hlr
                go_upto_region 34 with (at_builtin; refine wpList_appS el32 rfl _ _ rfl hrw rfl hls rfl (rps_one _) (le_max (by omega)) (by omega) hbase ?_; intro v9 w9 own9 gr9 at9)
                have HF9 := Lib.hid (show WQx w1.heap.size w9 g gL ⟨km, s3.l ++ mark (fl1 la lb li) (xs.map Rp.pk), fl4 (if li = 0 then false else la) (if li = 1 then false else lb)⟩ (if li = 0 then false else la) (if li = 1 then false else lb) v9 (w3s ++ xs) (.slice none 0 0) [] by
                  obtain ⟨F, h⟩ := HF7.out
                  exact ⟨_, h.app (by rw [← HLN.out.1, show (xs).length = j from HXL.out]; exact own9) gr9 at9⟩)
                have X9 := Lib.hid (Ext.of_grown X7.out gr9 (fun b e => (hrw.lt b e).1))
                clear own9 gr9 at9 hrw hls hbase
                go_wp2
                go_roundw
                case rel => exact ⟨i + 1, _, _, _, _, by go_num, by omega, HF9.out, ⟨rfl, rfl, by rw [List.map_append, HWI3.out.p, HFL.out]; cases xs <;> rfl⟩, X9.out⟩
                case measure => simp [intOf]; omega
              · rw [hfl] at c6
                have HFL := Lib.hid hfl
                clear hfl
                have hx0 := HQ6.out.1
                rw [HXX.out] at hx0
                have hcode : ∃ F, w6.cell? ⟨gl, 1, none⟩ = some (.int .u8 x.code) ∧ w6.frozen? ⟨gl, 1, none⟩ = false ∧ w1.heap.size ≤ gl ∧ WQ w1.heap.size F (w6.setCell ⟨gl, 1, none⟩ (.int .u8 ((z8 + 64 : Nat) : Int))) g gL ⟨km, s3.l ++ mark (fl1 la lb li) (xs.map Rp.pk), fl4 (if li = 0 then false else la) (if li = 1 then false else lb)⟩ la lb (.slice vA ln vc) w3s (.slice (some ⟨gl, 0, none⟩) j lc) ({ x with code := ((z8 + 64 : Nat) : Int) } :: xt) := by
                  obtain ⟨F, h⟩ := hx0
                  rw [← HLN.out.1, ← HXX.out] at h
                  rw [HXX.out] at h
                  obtain ⟨a1, a2, a3, a4⟩ := h.code ((z8 + 64 : Nat) : Int) (by omega)
                  exact ⟨_, a1, a2, a3, by rw [HXX.out]; exact a4⟩
                obtain ⟨F8, d6, e6, g8, WQ8⟩ := hcode
                rw [HXC.out] at d6
                obtain ⟨z64, hz64⟩ : ∃ z, z = z8 + 64 := ⟨_, rfl⟩
                have hz64I : (z8 : Int) + 64 = (z64 : Int) := by omega
                have uz64 := wr8 (i := z64) (by omega)
                have HZ64 := Lib.hid hz64
                have HWQ8 := Lib.hid WQ8
                have HG8 := Lib.hid g8
                have hj0 : (0 : Int) < j := by omega
                have hj0N : 0 < j := by omega
                clear hx0 WQ8 g8 hz64
                go_upto_region 32 with (fail)
                obtain ⟨w8, hw8⟩ : ∃ V, V = w6.setCell ⟨gl, 1, none⟩ (.int .u8 (z64 : Int)) := ⟨_, rfl⟩
                have Q8 : WQx w1.heap.size w8 g gL ⟨km, s3.l ++ mark (fl1 la lb li) (xs.map Rp.pk), fl4 (if li = 0 then false else la) (if li = 1 then false else lb)⟩ la lb (.slice vA ln vc) w3s (.slice (some ⟨gl, 0, none⟩) j lc) ({ x with code := ((z8 + 64 : Nat) : Int) } :: xt) := by
                  rw [hw8, HZ64.out]
                  exact ⟨F8, HWQ8.out⟩
                have HQ8 := Lib.hid (And.intro (by rw [HLN.out.1] at Q8; exact Q8) (show Ext w1 w8 by rw [hw8]; exact HQ6.out.2.setCell HG8.out _))
                obtain ⟨c8, f8, _⟩ := wq_fl Q8 hli2
                rw [← hw8]
                clear hw8 Q8 d6 e6 c6 f6 hz64I uz64
                go_upto_region 33 with (fail)
                obtain ⟨w7, hw7⟩ : ∃ V, V = w8.setCell ⟨gL, li, none⟩ (.bool false) := ⟨_, rfl⟩
                have HF7 := Lib.hid (show WQx w1.heap.size w7 g gL ⟨km, s3.l ++ mark (fl1 la lb li) (xs.map Rp.pk), fl4 (if li = 0 then false else la) (if li = 1 then false else lb)⟩ (if li = 0 then false else la) (if li = 1 then false else lb) (.slice vA ln vc) w3s (.slice (some ⟨gl, 0, none⟩) j lc) ({ x with code := ((z8 + 64 : Nat) : Int) } :: xt) by
                  obtain ⟨F, h⟩ := HQ8.out.1
                  have := h.flag li false hli2
                  rw [← hw7, ← HLN.out.1] at this
                  exact ⟨_, this⟩)
                have X7 := Lib.hid (show Ext w1 w7 by rw [hw7]; exact (HQ8.out.2).setCell HG6.out _)
                rw [← hw7]
                clear hw7 c8 f8
                have hrw := (Classical.choose_spec HF7.out).row
                rw [← HLN.out.1] at hrw
                have hlr := (Classical.choose_spec HF7.out).lrow
                rw [show (({ x with code := ((z8 + 64 : Nat) : Int) } :: xt)).length = j from (by have := HXL.out; rw [HXX.out] at this; exact this)] at hlr
                have hls := Shows.of_own hlr
                have hbase : w1.heap.size ≤ w7.heap.size := X7.out.size
                have HLR := Lib.hid hlr
                clear hlr
                go_upto_region 34 with (at_builtin; refine wpList_appS el32 rfl _ _ rfl hrw rfl hls rfl (rps_one _) (le_max (by omega)) (by omega) hbase ?_; intro v9 w9 own9 gr9 at9)
                have HF9 := Lib.hid (show WQx w1.heap.size w9 g gL ⟨km, s3.l ++ mark (fl1 la lb li) (xs.map Rp.pk), fl4 (if li = 0 then false else la) (if li = 1 then false else lb)⟩ (if li = 0 then false else la) (if li = 1 then false else lb) v9 (w3s ++ ({ x with code := ((z8 + 64 : Nat) : Int) } :: xt)) (.slice none 0 0) [] by
                  obtain ⟨F, h⟩ := HF7.out
                  exact ⟨_, h.app (by rw [← HLN.out.1, show (({ x with code := ((z8 + 64 : Nat) : Int) } :: xt)).length = j from (by have := HXL.out; rw [HXX.out] at this; exact this)]; exact own9) gr9 at9⟩)
                have X9 := Lib.hid (Ext.of_grown X7.out gr9 (fun b e => (hrw.lt b e).1))
                clear own9 gr9 at9 hrw hls hbase
                go_wp2
                go_roundw
                case rel => exact ⟨i + 1, _, _, _, _, by go_num, by omega, HF9.out, ⟨rfl, rfl, by rw [List.map_append, HWI3.out.p, HFL.out, HXX.out]; simp [mark, Rp.pk, HXC.out]⟩, X9.out⟩
                case measure => simp [intOf]; omega
    · obtain rfl : i = m := by omega
      obtain ⟨vA, vc, rfl, hvc, hvm⟩ := (Classical.choose_spec HQ.out).row.form
      have hls := HWI.out.len
      have hsn := HQ.out.sok.n
      have hsm := HQ.out.sok.m2
      obtain ⟨ln, hln⟩ : ∃ z, z = ws.length := ⟨_, rfl⟩
      rw [← hln] at hvc ⊢
      have hln64 : ln ≤ 64 := by omega
      have HLN := Lib.hid (And.intro hln hls)
      have hpl := HWI.out.p
      have HPL := Lib.hid hpl
      clear hln hls hsn hsm hpl hvc hvm
      go_upto_region 36 with (fail)
      go_loopw [152] (fun v wr => ∃ (t : Nat) (s' : QS), v = .int .i64 t ∧ t ≤ ln ∧ WQx w1.heap.size wr g gL s' la lb (.slice vA ln vc) ws (.slice none 0 0) [] ∧ s'.l = (ws.drop t).map Rp.pk ∧ Ext w1 wr) (fun v _ => ln - (intOf v).toNat)
      case atStart => exact ⟨0, s, rfl, Nat.zero_le _, by have := HQ.out; rw [← HLN.out.1] at this; exact this, by rw [List.drop_zero]; exact HPL.out.symm, x1r⟩
      case round =>
        obtain ⟨t, s', rfl, ht, Q, hsl, x1t⟩ := hrel
        obtain ⟨wt, rfl⟩ : ∃ z : World, z = wr := ⟨_, rfl⟩
        have HT4 := Lib.hid Q
        have HSL := Lib.hid hsl
        clear Q hsl
        by_cases htl : t < ln
        · have htI : (t : Int) < ln := by omega
          obtain ⟨x, hx⟩ : ∃ x, ws[t]? = some x := ⟨_, List.getElem?_eq_getElem (by rw [← HLN.out.1]; exact htl)⟩
          have hrw := (Classical.choose_spec HT4.out).row
          rw [← HLN.out.1] at hrw
          obtain ⟨b, o, hbA, _, hrr⟩ := Shows.row rp_len (by omega) hrw.shows HLN.out.1 hx
          have hdrop : (ws.drop t).map Rp.pk = x.pk :: (ws.drop (t + 1)).map Rp.pk := by
            have hl : t < ws.length := by rw [← HLN.out.1]; exact htl
            rw [List.drop_eq_getElem_cons hl]
            rw [List.getElem?_eq_getElem hl] at hx
            injection hx with hx
            rw [hx]
            rfl
          have HX := Lib.hid (And.intro hdrop ((Classical.choose_spec HT4.out).ok x (by simp [List.mem_of_getElem? hx])).1)
          have HMEM := Lib.hid (List.mem_of_getElem? hx)
          clear hx hrw hdrop
          subst hbA
          go_upto_region 38 with (first | refine wpList_load_mid rfl 38 _ rfl _ _ rfl x.vals _ hrr Try.underlying38 rfl size38 ?_ | refine wpList_stnew rfl 38 _ _ rfl rfl x.vals rfl rfl size38 rfl (rp_one x) ?_)
          obtain ⟨w4, hw4⟩ : ∃ V, V = wt.alloc (.cells x.vals.toArray 38) := ⟨_, rfl⟩
          have k4 : w4.heap[wt.heap.size]? = some (.cells x.vals.toArray 38 (0, 0)) := by rw [hw4]; exact heap_alloc_new _ _
          have x4 : Ext wt w4 := by rw [hw4]; exact (Ext.refl _).alloc _
          rw [← hw4]
          clear hw4 hrr
          have HN := Lib.hid (show Calls Try.prog 14 #[.pointer (some ⟨g, 0, none⟩)] w4 fun e w' => ∃ r : Rp, r.pk = x.pk ∧ e = .returned (.tuple #[.agg r.vals.toArray, .bool true]) ∧ r.ok w' ∧ WQx w1.heap.size w' g gL s'.next la lb (.slice (some ⟨b, o, none⟩) ln vc) ws (.slice none 0 0) [] ∧ Ext w1 w' ∧ w'.heap[wt.heap.size]? = some (.cells x.vals.toArray 38 (0, 0)) ∧ x.ok w' from by
            obtain ⟨F, h⟩ := HT4.out
            have h4 := h.ext x4
            have hlt := blk_lt k4
            refine (next_f h4.q (by rw [HSL.out, HX.out.1])).mono ?_
            rintro e w' ⟨r, a1, a2, a3, a4⟩
            exact ⟨r, a1, a2, a3, ⟨_, h4.kept a4⟩, (x1t.trans x4).kept a4.1 (fun b hb => h4.low b hb), a4.1.blk k4 (fun hb => hb.2 ⟨Nat.le_refl _, hlt⟩), (HX.out.2.ext x4).kept a4.1 (fun ad e hb => by
              exact (h4.ne x (by simp [HMEM.out]) ad e).1 hb)⟩)
          clear k4
          go_upto_region 39 with (first | (go_at_call 14; (refine HN.out.mono ?_); rintro e w6 ⟨r7, hr7, rfl, hok7, Q7, X7, k6, ox6⟩; have HQ7 := Lib.hid Q7; have HR7 := Lib.hid (And.intro hr7 (And.intro hok7 (And.intro X7 ox6))); clear Q7 hr7 hok7 X7 ox6) | refine wpList_stnew rfl 38 _ _ rfl rfl r7.vals rfl rfl size38 rfl (rp_one r7) ?_)
          obtain ⟨w7, hw7⟩ : ∃ V, V = w6.alloc (.cells r7.vals.toArray 38) := ⟨_, rfl⟩
          have k7 : w7.heap[w6.heap.size]? = some (.cells r7.vals.toArray 38 (0, 0)) := by rw [hw7]; exact heap_alloc_new _ _
          have x7 : Ext w6 w7 := by rw [hw7]; exact (Ext.refl _).alloc _
          rw [← hw7]
          clear hw7
          have k67 := (x7.block _ (blk_lt k6)).trans k6
          have HQ8 := Lib.hid (And.intro (HQ7.out.ext x7) (And.intro (HR7.out.2.2.1.trans x7) (And.intro (HR7.out.2.1.ext x7) (HR7.out.2.2.2.ext x7))))
          have HNX := Lib.hid (show s'.next.l = (ws.drop (t + 1)).map Rp.pk by unfold QS.next; rw [HSL.out, HX.out.1]; rfl)
          clear k6 x7
          go_wp2_with (first
            | (go_at_call 16; (refine (rp_same 1 1 sh1 sh2 (HQ8.out.2.2.1.ext (xA.trans xB)) (HQ8.out.2.2.2.ext (xA.trans xB)) HR7.out.1).mono ?_); rintro e wC ⟨rfl, xC⟩)
            | (refine wpList_bsG (r := x) rfl _ rfl rfl ?_; intro wB hwB; have xB : Ext wA wB := (by rw [hwB]; exact (Ext.refl _).alloc _); have sh1 := sh1.ext xB; have sh2 := shows_one (w := wA) (r := x) 38; rw [← hwB] at sh2; clear hwB)
            | refine wpList_ldrowG rfl 38 _ rfl k9A rfl Try.underlying38 rfl size38 ?_
            | (refine wpList_bsG (r := r7) rfl _ rfl rfl ?_; intro wA hwA; have xA : Ext w7 wA := (by rw [hwA]; exact (Ext.refl _).alloc _); have sh1 := shows_one (w := w7) (r := r7) 38; rw [← hwA] at sh1; clear hwA; have k9A := (xA.block _ (blk_lt k67)).trans k67)
            | refine wpList_ldrowG rfl 38 _ rfl k7 rfl Try.underlying38 rfl size38 ?_)
          go_roundw
          case rel => exact ⟨t + 1, _, by go_num, by omega, HQ8.out.1.ext (xA.trans (xB.trans xC)), HNX.out, HQ8.out.2.1.trans (xA.trans (xB.trans xC))⟩
          case measure => simp [intOf]; omega
        · obtain rfl : t = ln := by omega
          have h0 : s'.l = [] := by rw [HSL.out, HLN.out.1, List.drop_length]; rfl
          have HN := Lib.hid HT4.out.len
          rw [h0] at HN
          clear h0
          go_upto_region 99 with (go_at_call 19; (refine HN.out.mono ?_); rintro e w7 ⟨rfl, rfl⟩)
          go_ret
          exact ⟨by simp, x1.trans x1t⟩
theorem QueueWhole_all (w : World) (a0 : Int) (A : Option Addr) (n c : Nat) (bs : List Int) (B : Option Addr) (nt ct : Nat) (ts : List Int) (l0 : 0 ≤ a0) (h0 : a0 < 256) (hs : Rd w A n bs) (hnc : n ≤ c) (hcm : c ≤ maxLen) (ht : Rd w B nt ts) (hntc : nt ≤ ct) (hctm : ct ≤ maxLen) : Calls Try.prog 4 #[.int .u8 a0, .slice A n c, .slice B nt ct] w fun e w' => e = .returned (.bool true) ∧ Ext w w' := by
  obtain ⟨b0, rfl⟩ := Int.eq_ofNat_of_zero_le l0
  exact QueueWhole_law w b0 A n c bs B nt ct ts (by omega) hs hnc hcm ht hntc hctm
end Go.Proofs.Ytdhdkjiphapliaa
