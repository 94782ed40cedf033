import Derived.Test.YtjdabmadpclbaaaBN
set_option linter.unusedVariables false
set_option linter.unusedSimpArgs false
namespace Go.Proofs.Ytjdabmadpclbaaa
open Go.RowKit Go.ChangeShapes Go.WideShapes
theorem c59 : Try.prog.cellsOf 59 = 3 := by kernel_rfl
theorem size59 : (Try.prog.info? 59).map (·.size) = some 3 := by kernel_rfl
theorem size22 : (Try.prog.info? 22).map (·.size) = some 1 := by kernel_rfl
theorem open_bool3 {H : Type} {enc : TypeId × Value → H} {W : World} {base b0 : Nat} {spare : Nat → Bool} {held : Bool} {r : Reach} {v : Value} {d : DataW H} {p : List MemPlace}
    (hv : Value.okWide Try.prog W r b0 59 v) (h : DataW.Trod enc Try.prog W base spare held 59 v d p) :
    ∃ (a0 a1 a2 : Bool), v = .agg #[.bool a0, .bool a1, .bool a2] ∧ True := by
  obtain ⟨⟨cs⟩, rfl, hsz⟩ := okWide_array Try.underlying59 hv
  obtain ⟨fuel, hf⟩ := h
  obtain ⟨v0, v1, v2, rfl⟩ : ∃ v0 v1 v2, cs = [v0, v1, v2] := by
    have hl : cs.length = 3 := by simpa [c59] using hsz
    match cs, hl with
    | [a, b, c], _ => exact ⟨a, b, c, rfl⟩
  obtain ⟨y0, y1, y2, n, _, t0, t1, t2⟩ := trod_array3 Try.underlying59 c4 hf
  obtain ⟨a0, q0, _⟩ := DataW.trod_bool Try.underlying4 t0
  obtain ⟨a1, q1, _⟩ := DataW.trod_bool Try.underlying4 t1
  obtain ⟨a2, q2, _⟩ := DataW.trod_bool Try.underlying4 t2
  injection q0 with q0
  injection q1 with q1
  injection q2 with q2
  subst q0 q1 q2
  exact ⟨a0, a1, a2, rfl, trivial⟩
theorem wpList_stcell {P : Program} {w : World} {ops : Array Oper} {rest : List Oper} {o : Oper} {a : Act} {Q : Exit → Act → World → Prop} (ty : TypeId) (x y : Operand) (hgd : o.guard = none) (ho : o.op = .store ty x y)
    {g i : Nat} {t : TypeId} {cs : Array Value} (hg : w.heap[g]? = some (.cells cs t (0, 0))) {v : Value} (hx : a.eval x = .pointer (some ⟨g, i, none⟩)) (hy : a.eval y = v) (hi : i < cs.size)
    (hsz : (P.info? ty).map (·.size) = some 1) (h1 : v.oneCell' = true) (hva : ∀ c, v ≠ .agg c)
    (h : ∀ w', w'.heap[g]? = some (.cells (cs.setIfInBounds i v) t (0, 0)) → w.grownBy w' (some g) → wpList P ops Q rest (a.put o.dst undef) w') : wpList P ops Q (o :: rest) a w :=
  wpList_plain hgd fun _ hK => wp_stcell ty x y ho hg hx hy hi hsz h1 hva (fun w' a b => hK _ _ (h w' a b))
theorem info4 : ∃ i, Try.prog.info? 4 = some i ∧ i.size = 1 := by
  obtain ⟨i, h, e⟩ := Option.map_eq_some_iff.1 (show (Try.prog.info? 4).map (·.size) = some 1 by kernel_rfl)
  exact ⟨i, h, e⟩
theorem run_idx (k : Nat) (hk : k < 3) (a0 a1 a2 : Bool) (W : World) : (Instr.index 59 (.agg #[.bool a0, .bool a1, .bool a2]) (.int .i64 k)).run Try.prog W = .ok (.bool (of3 a0 a1 a2 k)) W := by
  obtain ⟨i, hi, hs⟩ := info4
  have e : k = 0 ∨ k = 1 ∨ k = 2 := by omega
  rcases e with rfl | rfl | rfl <;> simp [Instr.index, asIntOf, run_underlying Try.underlying59, sizeOf, typeInfo, hi, hs, of3, part]
theorem wpList_idx {P : Program} {w : World} {ops : Array Oper} {rest : List Oper} {o : Oper} {a : Act} {Q : Exit → Act → World → Prop} {t : TypeId} {u v z : Value} (hgd : o.guard = none) (x y : Operand) (ho : o.op = .index t x y) (hx : a.eval x = u) (hy : a.eval y = v)
    (hr : ∀ W, (Instr.index t u v).run P W = .ok z W) (h : wpList P ops Q rest (a.put o.dst z) w) : wpList P ops Q (o :: rest) a w := by
  refine wpList_plain hgd fun _ hK => ?_
  unfold Oper.wp execOp
  simp only [ho, hx, hy, Sem.run_bind, hr, Sem.run_pure, Result.andThen_ok]
  exact hK _ _ h
/-- the filters of the first k nodes. -/
def flN (f : Fr) (L : Nat → Bool) (k j : Nat) : List Fi := if (decide (j < k) && L j) = true then [⟨0, 0, f.ext⟩] else []
theorem fl_no {f : Fr} {L : Nat → Bool} {k : Nat} (h : L k = false) : flN f L (k + 1) = flN f L k := by
  funext j
  unfold flN
  by_cases hj : j = k
  · subst hj; simp [h]
  · rw [show decide (j < k + 1) = decide (j < k) by simp; omega]
theorem fl_yes {f : Fr} {L : Nat → Bool} {k : Nat} (h : L k = true) (j : Nat) : flN f L (k + 1) j = if j = k then [⟨0, 0, f.ext⟩] else flN f L k j := by
  unfold flN
  by_cases hj : j = k
  · subst hj; simp [h]
  · rw [if_neg hj, show decide (j < k + 1) = decide (j < k) by simp; omega]
/-- the filters as they lie. -/
def Laid (f : Fr) (L : Nat → Bool) (w2 wr : World) (gx k : Nat) (A : Nat → Option Addr) (n : Nat → Nat) (cs : Array Value) : Prop :=
  wr.heap[gx]? = some (.cells cs 23 (0, 0)) ∧ cs.size = 3 ∧ Ext w2 wr ∧ (∀ j, j < 3 → cs[j]? = some (.slice (A j) (n j) (n j)) ∧ ∀ ad, A j = some ad → gx < ad.block) ∧ (∀ j, j < 3 → n j = (flN f L k j).length) ∧ ∀ j, j < 3 → Shows wr 3 (A j) (n j) (fis (flN f L k j))
theorem comes_step {f : Fr} {L : Nat → Bool} {w2 wr w6 : World} {k : Nat} {A : Nat → Option Addr} {n : Nat → Nat} {cs : Array Value} (hk3 : k < 3) (hL : L k = true) (h : Laid f L w2 wr w2.heap.size k A n cs)
    (k6 : w6.heap[w2.heap.size]? = some (.cells (cs.setIfInBounds k (.slice (some ⟨wr.heap.size, 0, none⟩) 1 1)) 23 (0, 0))) (x6 : (wr.alloc (.cells (Fi.vals ⟨0, 0, f.ext⟩).toArray 61)).grownBy w6 (some w2.heap.size)) :
    ∃ (k' : Nat) (A : Nat → Option Addr) (n : Nat → Nat) (cs : Array Value), Value.int .i64 (k + 1 : Nat) = .int .i64 k' ∧ k' ≤ 3 ∧ 3 - (k + 1) = 3 - k' ∧ Laid f L w2 w6 w2.heap.size k' A n cs := by
  obtain ⟨h1, h2, h3, h4, h5, h6⟩ := h
  have hs := blk_lt h1
  have xa : Ext wr (wr.alloc (.cells (Fi.vals ⟨0, 0, f.ext⟩).toArray 61)) := (Ext.refl _).alloc _
  refine ⟨k + 1, fun j => if j = k then some ⟨wr.heap.size, 0, none⟩ else A j, fun j => if j = k then 1 else n j, _, rfl, by omega, rfl, k6, by simp [h2], Ext.of_grown (h3.trans xa) x6 (fun q e => by injection e with e; omega), fun j hj => ?_, fun j hj => ?_, fun j hj => ?_⟩
  · by_cases e : j = k
    · subst e
      simp only [if_true]
      refine ⟨by simp [h2, hk3], fun ad e => by injection e with e; subst e; exact hs⟩
    · simp only [e, if_false]
      refine ⟨by rw [Array.getElem?_setIfInBounds_ne (Ne.symm e)]; exact (h4 j hj).1, (h4 j hj).2⟩
  · rw [fl_yes hL]
    by_cases e : j = k
    · simp [e]
    · simp only [e, if_false]; exact h5 j hj
  · rw [fl_yes hL]
    by_cases e : j = k
    · simp only [e, if_true]
      exact (shows_fi (f := ⟨0, 0, f.ext⟩) 61).grown x6 (fun ad e => by injection e with e; subst e; intro q; injection q with q; have q : wr.heap.size = w2.heap.size := q; omega)
    · simp only [e, if_false]
      exact ((h6 j hj).ext xa).grown x6 (fun ad e1 q => by injection q with q; have := (h4 j hj).2 ad e1; omega)
/-- what comes where. -/
def comes (L : Nat → Bool) (wi : Nat) (lost : Bool) (j : Nat) : Bool := decide (j ≠ wi) && L j && !lost
theorem comes_pick {f : Fr} {L : Nat → Bool} {wi : Nat} (hw : wi < 3) : pick ((ssN (flN f L 3) 3).set wi ⟨(flN f L 3 wi).take 4, [f], [], false⟩) = (wi, f, true) := by
  have hn : (⟨(flN f L 3 wi).take 4, [f], [], false⟩ : BSt).next = (f, true) := (next_eq (s := ⟨(flN f L 3 wi).take 4, [f], [], false⟩) (List.cons_ne_nil _ _)).trans (by simp [best_one])
  have hz : ∀ l, (BSt.new l).next = (Fr.zero, false) := fun l => rfl
  have e : wi = 0 ∨ wi = 1 ∨ wi = 2 := by omega
  rcases e with rfl | rfl | rfl <;> simp [pick, ssN, List.range_succ, pickTo, hn, hz]
theorem take_rx {l : List Fi} {f : Fr} (hf : f.ok) (hm : f.may = true) {b : Bool} (hl : l = if b = true then [⟨0, 0, f.ext⟩] else []) : ((BSt.new (l.take 4)).take f).1.rx = if b = true then [f] else [] := by
  cases b
  · simp at hl; subst hl
    simp [BSt.take, BSt.lets, BSt.new]
  · simp at hl; subst hl
    have := tk_all f hf
    rw [hm] at this
    have h2 : (BSt.new [⟨0, 0, f.ext⟩]).lets f = true := by
      unfold tk at this
      rw [hm] at this
      simpa [BSt.lets, BSt.new] using this
    simp [BSt.take, hm, h2]
    simp [BSt.new]
theorem comes_rx {f : Fr} {L : Nat → Bool} {wi : Nat} (lost : Bool) (hw : wi < 3) (hf : f.ok) (hm : f.may = true) : ∀ (j : Nat) (s : BSt), (turnL lost ((ssN (flN f L 3) 3).set wi ⟨(flN f L 3 wi).take 4, [f], [], false⟩))[j]? = some s → s.rx = if comes L wi lost j = true then [f] else [] := by
  intro j s hs
  unfold turnL at hs
  rw [comes_pick hw] at hs
  simp only [Bool.true_eq_false, if_false] at hs
  have hlen : ((ssN (flN f L 3) 3).set wi ⟨(flN f L 3 wi).take 4, [f], [], false⟩).length = 3 := by rw [List.length_set, ssN_len]
  have hgd : ((ssN (flN f L 3) 3).set wi ⟨(flN f L 3 wi).take 4, [f], [], false⟩).getD wi d0 = ⟨(flN f L 3 wi).take 4, [f], [], false⟩ := by
    simp [List.getD, List.getElem?_set_self (show wi < (ssN (flN f L 3) 3).length by rw [ssN_len]; exact hw)]
  rw [hgd, List.set_set] at hs
  have hdr : (⟨(flN f L 3 wi).take 4, [f], [], false⟩ : BSt).done.rx = [] := rfl
  generalize (⟨(flN f L 3 wi).take 4, [f], [], false⟩ : BSt).done = dn at hs hdr
  have hj3 : j < 3 := by
    have := (List.getElem?_eq_some_iff.1 hs).1
    cases lost
    · simp only [Bool.false_eq_true, if_false, skN_len, List.length_set, ssN_len] at this; exact this
    · simpa [ssN_len] using this
  have hget : j ≠ wi → ((ssN (flN f L 3) 3).set wi dn)[j]? = some (BSt.new ((flN f L 3 j).take 4)) := fun h => by
    rw [List.getElem?_set_ne (Ne.symm h)]
    simp [ssN, hj3]
  have hself : ((ssN (flN f L 3) 3).set wi dn)[wi]? = some dn := List.getElem?_set_self (by rw [ssN_len]; exact hw)
  by_cases hjw : j = wi
  · subst hjw
    have e : s = dn := by
      cases lost
      · simp only [Bool.false_eq_true, if_false] at hs
        rw [skN_get _ _ _ _ _ (by rw [List.length_set, List.length_set]; exact Nat.le_refl _), if_neg (by omega), hself] at hs
        injection hs with hs; exact hs.symm
      · simp only [if_true] at hs
        rw [hself] at hs; injection hs with hs; exact hs.symm
    rw [e, hdr]
    simp [comes]
  · cases lost
    · simp only [Bool.false_eq_true, if_false] at hs
      rw [skN_get _ _ _ _ _ (by rw [List.length_set, List.length_set]; exact Nat.le_refl _), if_pos ⟨by rw [List.length_set, ssN_len]; exact hj3, hjw⟩, hget hjw] at hs
      injection hs with hs
      rw [← hs, take_rx hf hm (b := L j) (by unfold flN; simp [hj3])]
      simp [comes, hjw]
    · simp only [if_true] at hs
      rw [hget hjw] at hs
      injection hs with hs
      rw [← hs]
      simp [comes, BSt.new]
theorem send_no1' {s : BSt} {f : Fr} (h : f.may = false) : s.send f = (s, 1) := by simp [BSt.send, h]
theorem send_yes' {s : BSt} {f : Fr} (h : f.may = true) (h3 : ¬ 3 ≤ s.tx.length) : s.send f = ({ s with tx := s.tx ++ [f] }, 0) := by simp [BSt.send, h, h3]
theorem recv_one1 {s : BSt} {f : Fr} (h : s.rx = if true = true then [f] else []) : s.recv = ({ s with rx := [] }, f, true) := by simp at h; simp [BSt.recv, h]
theorem recv_zero1 {s : BSt} {f : Fr} (h : s.rx = if false = true then [f] else []) : s.recv = (s, Fr.zero, false) := by simp at h; simp [BSt.recv, h]
set_option maxRecDepth 100000 in
set_option maxHeartbeats 16000000 in
theorem comes_law (w : World) (f : Fr) (hf : f.ok) (who : Int) (q0 : 0 ≤ who) (q1 : who < 256) (a0 a1 a2 lost : Bool) :
    Calls Try.prog 5 #[.agg f.vals.toArray, .int .u8 who, .agg #[.bool a0, .bool a1, .bool a2], .bool lost] w fun e w' => e = .returned (.bool true) ∧ Ext w w' := by
  obtain ⟨w1, hw1⟩ : ∃ V, V = (w.alloc (.cells f.vals.toArray 34)).alloc (.cells #[.bool a0, .bool a1, .bool a2] 59) := ⟨_, rfl⟩
  have kf : w1.heap[w.heap.size]? = some (.cells f.vals.toArray 34 (0, 0)) := by rw [hw1]; exact blk_of ((Ext.refl _).alloc _)
  have kl : w1.heap[w.heap.size + 1]? = some (.cells #[.bool a0, .bool a1, .bool a2] 59 (0, 0)) := by rw [hw1]; exact blk_new (by simp)
  have x1 : Ext w w1 := by rw [hw1]; exact ((Ext.refl _).alloc _).alloc _
  go_enter Try.func5, Try.ntmps5
  go_upto_region 1 with (fail)
  have esz : (w.alloc (.cells f.vals.toArray 34)).heap.size = w.heap.size + 1 := by simp
  change Code.wp _ _ _ _ ((w.alloc (.cells f.vals.toArray 34)).alloc (.cells #[.bool a0, .bool a1, .bool a2] 59))
  rw [← hw1]
  try rw [esz]
  clear hw1 esz
  go_upto_region 2 with (go_at_call 8; (refine (shown_any _).mono ?_); rintro e w2 ⟨rfl, x2⟩)
  have kf2 := (x2.block _ (blk_lt kf)).trans kf
  have kl2 := (x2.block _ (blk_lt kl)).trans kl
  have x02 := x1.trans x2
  clear kf kl x1 x2
  obtain ⟨w3, hw3⟩ : ∃ V, V = w2.alloc (.cells #[.slice none 0 0, .slice none 0 0, .slice none 0 0] 23) := ⟨_, rfl⟩
  have kx : w3.heap[w2.heap.size]? = some (.cells #[.slice none 0 0, .slice none 0 0, .slice none 0 0] 23 (0, 0)) := by rw [hw3]; exact heap_alloc_new _ _
  have x3 : Ext w2 w3 := by rw [hw3]; exact (Ext.refl _).alloc _
  go_upto_region 3 with (fail)
  change Code.wp _ _ _ _ (w2.alloc (.cells #[.slice none 0 0, .slice none 0 0, .slice none 0 0] 23))
  rw [← hw3]
  clear hw3
  have klx := (x3.block _ (blk_lt kl2)).trans kl2
  have L3 : Hid (Laid f (of3 a0 a1 a2) w2 w3 w2.heap.size 0 (fun _ => none) (fun _ => 0) #[.slice none 0 0, .slice none 0 0, .slice none 0 0]) := Lib.hid ⟨kx, rfl, x3, all3 ⟨rfl, fun _ e => nomatch e⟩ ⟨rfl, fun _ e => nomatch e⟩ ⟨rfl, fun _ e => nomatch e⟩, fun j _ => by simp [flN], fun j _ => by simp [flN]; exact Shows.nil⟩
  clear kx
  go_wp2_with (refine wpList_ldrow rfl 59 _ rfl klx rfl Try.underlying59 rfl size59 ?_)
  go_loopg [25] 3 (fun gk i wr => ∃ (k : Nat) (A : Nat → Option Addr) (n : Nat → Nat) (cs : Array Value), i = .int .i64 k ∧ k ≤ 3 ∧ gk = 3 - k ∧ Laid f (of3 a0 a1 a2) w2 wr w2.heap.size k A n cs)
  case atStart => exact ⟨0, _, _, _, rfl, by omega, rfl, L3.out⟩
  case round =>
    clear L3 klx x3
    obtain ⟨k, A, n, cs, rfl, hk, rfl, hG⟩ := hrel
    by_cases hlt : k < 3
    · have hcz : k < cs.size := by rw [hG.2.1]; exact hlt
      have KX := Lib.hid ((((Ext.refl wr).alloc (.cells (Fi.vals ⟨0, 0, f.ext⟩).toArray 61)).block _ (blk_lt hG.1)).trans hG.1)
      have kf3 := (hG.2.2.1.block _ (blk_lt kf2)).trans kf2
      have cf : wr.cell? ⟨w.heap.size, 1, none⟩ = some (.bool f.ext) := by rw [cell_of_row _ _ _ _ _ _ kf3]; rfl
      have hG := Lib.hid hG
      obtain ⟨bk, hbk⟩ : ∃ bk, of3 a0 a1 a2 k = bk := ⟨_, rfl⟩
      have HBK := Lib.hid hbk
      have hidx := fun (V : World) => run_idx k (by omega) a0 a1 a2 V
      rw [hbk] at hidx
      clear hbk
      have hk3 : (k : Int) < 3 := by omega
      have hk0 : (0 : Int) ≤ k := by omega
      go_upto_region 6 with (refine wpList_idx rfl _ _ rfl rfl rfl hidx ?_)
      cases bk
      · have HK := Lib.hid (fl_no (f := f) HBK.out)
        go_wp2
        go_roundg (3 - (k + 1))
        case measure => omega
        case rel =>
          obtain ⟨g1, g2, g3, g4, g5, g6⟩ := hG.out
          exact ⟨k + 1, A, n, cs, by go_num, by omega, rfl, g1, g2, g3, g4, by rw [HK.out]; exact g5, by rw [HK.out]; exact g6⟩
      · go_wp2_with (first
          | refine wpList_bsFi (f := ⟨0, 0, f.ext⟩) rfl _ rfl rfl ?_
          | (refine wpList_stcell (v := .slice (some ⟨wr.heap.size, 0, none⟩) 1 1) (i := k) 22 _ _ rfl rfl KX.out rfl rfl hcz size22 rfl (fun c e => nomatch e) ?_; intro w6 k6 x6))
        go_roundg (3 - (k + 1))
        case measure => omega
        case rel => exact comes_step hlt HBK.out hG.out k6 x6
    · obtain rfl : k = 3 := by omega
      obtain ⟨g1, g2, g3, g4, g5, g6⟩ := hG
      have hfo : ∀ j, j < 3 → ∀ x ∈ flN f (of3 a0 a1 a2) 3 j, Fi.ok x := fun j _ x hx => by
        unfold flN at hx
        split at hx
        · simp at hx; subst hx; exact ⟨by simp, by simp⟩
        · cases hx
      have hn1 : ∀ j, j < 3 → n j ≤ maxLen := fun j hj => by
        rw [g5 j hj]; unfold flN; split <;> simp [maxLen]
      have HNO := Lib.hid (nodes_any (w := wr) cs A n n (flN f (of3 a0 a1 a2) 3) (fun j hj => (g4 j hj).1) (fun j _ => Nat.le_refl _) hn1 g5 g6 hfo)
      have HZ : Hid ((Try.prog.info? 23).map (·.size) = some cs.size) := Lib.hid (by rw [g2]; exact size23)
      have kfR := (g3.block _ (blk_lt kf2)).trans kf2
      have klR := (g3.block _ (blk_lt kl2)).trans kl2
      have X0 := Lib.hid (x02.trans g3)
      clear g2 g3 g4 g5 g6 hfo hn1 kf2 kl2
      obtain ⟨wi, hwi, hw3⟩ := tmod_nat (m := 3) q0 (by omega)
      have hwi' : who.tmod 3 = wi := hwi
      have hwr : IntKind.i64.wrap (wi : Int) = wi := by rw [IntKind.wrap_i64]; omega
      clear hwi
      go_upto_region 10 with (first
        | refine wpList_ldrow rfl 23 _ rfl g1 rfl Try.underlying23 rfl HZ.out ?_
        | (go_at_call 9; (refine HNO.out.mono ?_); rintro e w4 ⟨va, vb, gs, hs, rfl, N4⟩))
      obtain ⟨aA, aC, rfl⟩ := own_slice N4.rowA
      obtain ⟨bA', bC', rfl⟩ := own_slice N4.rowB
      have HG3 : Hid (gs.length = 3) := Lib.hid (by rw [N4.lenA, ssN_len])
      have HG9 : Hid (gs.length ≤ 100) := Lib.hid (by rw [N4.lenA, ssN_len]; omega)
      have hwg : (wi : Int) < gs.length := by rw [HG3.out]; omega
      have hw0 : (0 : Int) ≤ wi := by omega
      obtain ⟨g, hg⟩ : ∃ g, gs[wi]? = some g := ⟨_, List.getElem?_eq_getElem (show wi < gs.length by rw [HG3.out]; exact hw3)⟩
      have hs0 : (ssN (flN f (of3 a0 a1 a2) 3) 3)[wi]? = some (BSt.new ((flN f (of3 a0 a1 a2) 3 wi).take 4)) := by simp [ssN, hw3]
      obtain ⟨bA, oA, rfl, hbA, _⟩ := ptr_cell (NN.shA N4) rfl hg
      have hcA := ptr_cell' (NN.shA N4) rfl hg
      have kf4 := (N4.x.block _ (blk_lt kfR)).trans kfR
      have HG := Lib.hid hg
      have HS := Lib.hid hs0
      have N4 := Lib.hid N4
      clear hg hs0 HNO HZ g1
      obtain ⟨bm, hbm⟩ : ∃ bm, f.may = bm := ⟨_, rfl⟩
      have HMAY := Lib.hid (rmay_fr f)
      rw [hbm] at HMAY
      cases bm
      · have HSD := Lib.hid (send_no1' (s := BSt.new ((flN f (of3 a0 a1 a2) 3 wi).take 4)) hbm)
        clear hbm
        go_upto_region 11 with (fail)
        refine wp_region_held_drew (S := fun W => W.heap[w.heap.size]? = some (.cells f.vals.toArray 34 (0, 0)) ∧ W.cell? ⟨bA, oA + wi, none⟩ = some (ptr g)) (by kernel_rfl) (⟨(((Ext.refl w4).drew).block _ (blk_lt kf4)).trans kf4, (Below.cell ((Ext.refl w4).drew) (p := ⟨bA, oA + wi, none⟩) hbA).trans hcA⟩) (fun hHeld => ?_)
        obtain ⟨wD1, hwD⟩ : ∃ V, V = World.drew w4 := ⟨_, rfl⟩
        rw [← hwD] at hHeld ⊢
        have zz0 : Ext w4 wD1 := by rw [hwD]; exact (Ext.refl _).drew
        clear hwD
        have PD := N4.out.ext zz0
        refine wpAnyH_take (i := 0) (oi := { dst := some 45, op := Op.move (Operand.tmp 13), type := 26, pos := "law.go:130", after := #[], guard := none }) (v := ?vv2_11_0) rfl (by kernel_rfl) (by kernel_rfl) (by kernel_rfl) (fun _ _ _ h => h) (Or.inl ⟨by rfl, ?yy2_11_0⟩) hHeld ?_
        case yy2_11_0 => (intro W hx; go_simp; try with_reducible rfl)
        simp only [Act.put, List.setIfInBounds_toArray, List.set_cons_zero, List.set_cons_succ]
        refine wpAnyH_take (i := 1) (oi := { dst := some 46, op := Op.move (Operand.tmp 15), type := 3, pos := "law.go:130", after := #[], guard := none }) (v := ?vv3_11_1) rfl (by kernel_rfl) (by kernel_rfl) (by kernel_rfl) (fun _ _ _ h => h) (Or.inl ⟨by rfl, ?yy3_11_1⟩) hHeld ?_
        case yy3_11_1 => (intro W hx; go_simp; try with_reducible rfl)
        simp only [Act.put, List.setIfInBounds_toArray, List.set_cons_zero, List.set_cons_succ]
        refine wpAnyH_take (i := 2) (oi := { dst := some 47, op := Op.indexAddr 26 (Operand.tmp 45) (Operand.tmp 46), type := 0, pos := "law.go:130", after := #[{ on := 0, ground := Ground.data }, { on := 1, ground := Ground.data }], guard := none }) (v := ?vv4_11_2) rfl (by kernel_rfl) (by kernel_rfl) (by kernel_rfl) (fun _ _ _ h => h) (Or.inl ⟨by rfl, ?yy4_11_2⟩) hHeld ?_
        case yy4_11_2 => (intro W hx; go_simp; try with_reducible rfl)
        simp only [Act.put, List.setIfInBounds_toArray, List.set_cons_zero, List.set_cons_succ]
        refine wpAnyH_take (i := 3) (oi := { dst := some 48, op := Op.load 41 (Operand.tmp 47), type := 41, pos := "law.go:130", after := #[{ on := 2, ground := Ground.data }], guard := none }) (v := ?vv5_11_3) rfl (by kernel_rfl) (by kernel_rfl) (by kernel_rfl) (fun _ _ _ h => h) (Or.inl ⟨by rfl, ?yy5_11_3⟩) hHeld ?_
        case yy5_11_3 => (intro W hx; have q9 := hx.2; go_simp; try with_reducible rfl)
        simp only [Act.put, List.setIfInBounds_toArray, List.set_cons_zero, List.set_cons_succ]
        refine wpAnyH_take (i := 4) (oi := { dst := some 49, op := Op.load 34 (Operand.tmp 4), type := 34, pos := "law.go:130", after := #[], guard := none }) (v := ?vv6_11_4) rfl (by kernel_rfl) (by kernel_rfl) (by kernel_rfl) (fun _ _ _ h => h) (Or.inl ⟨by rfl, ?yy6_11_4⟩) hHeld ?_
        case yy6_11_4 => (intro W hx; refine ld_op (frAt hx.1) ?_; rfl)
        simp only [Act.put, List.setIfInBounds_toArray, List.set_cons_zero, List.set_cons_succ]
        refine wpAnyH_ready (rs := [5]) (by kernel_rfl) (by simp) (AllReadyH.cons rfl (fun K hK => ?_) AllReadyH.nil)
        go_simp
        go_wp2_with (go_at_call 13; (refine (send_n PD HG.out HS.out hf HSD.out).mono ?_); rintro e w5 ⟨rfl, N5, _⟩)
        refine hK.out _ _ (⟨(N5.x.block _ (blk_lt kfR)).trans kfR, ptr_cell' N5.shA rfl HG.out⟩) (fun hHeld => ?_)
        clear hK K
        refine wpAnyH_take (i := 6) (oi := { dst := some 51, op := Op.binOp BinOp.neq 40 (Operand.tmp 50) (Operand.const (Value.int IntKind.i64 0)) 40, type := 4, pos := "law.go:130", after := #[{ on := 5, ground := Ground.data }], guard := none }) (v := ?vv7_11_6) rfl (by kernel_rfl) (by kernel_rfl) (by kernel_rfl) (fun _ _ _ h => h) (Or.inl ⟨by rfl, ?yy7_11_6⟩) hHeld ?_
        case yy7_11_6 => (intro W hx; go_simp; try with_reducible rfl)
        simp only [Act.put, List.setIfInBounds_toArray, List.set_cons_zero, List.set_cons_succ]
        refine wpAnyH_done (by kernel_rfl) ?_ _
        have kf5 := hHeld.1
        have X5 := Lib.hid (X0.out.trans N5.x)
        clear N5 PD hHeld hcA
        go_wp2_with (first
          | refine wpList_ldrowG rfl 34 _ rfl kf5 rfl Try.underlying34 rfl size37 ?_
          | (go_at_call 23; (refine (HMAY.out _).mono ?_); rintro e w6 ⟨rfl, x6⟩))
        go_ret
        exact ⟨rfl, X5.out.trans x6⟩
      · have HSD := Lib.hid (send_yes' (s := BSt.new ((flN f (of3 a0 a1 a2) 3 wi).take 4)) hbm (by simp [BSt.new]))
        have HP := Lib.hid (comes_pick (f := f) (L := of3 a0 a1 a2) hw3)
        have HRX := Lib.hid (comes_rx (L := of3 a0 a1 a2) lost hw3 hf hbm)
        clear hbm
        go_upto_region 11 with (fail)
        refine wp_region_held_drew (S := fun W => W.heap[w.heap.size]? = some (.cells f.vals.toArray 34 (0, 0)) ∧ W.cell? ⟨bA, oA + wi, none⟩ = some (ptr g)) (by kernel_rfl) (⟨(((Ext.refl w4).drew).block _ (blk_lt kf4)).trans kf4, (Below.cell ((Ext.refl w4).drew) (p := ⟨bA, oA + wi, none⟩) hbA).trans hcA⟩) (fun hHeld => ?_)
        obtain ⟨wD8, hwD⟩ : ∃ V, V = World.drew w4 := ⟨_, rfl⟩
        rw [← hwD] at hHeld ⊢
        have zz0 : Ext w4 wD8 := by rw [hwD]; exact (Ext.refl _).drew
        clear hwD
        have PD := N4.out.ext zz0
        refine wpAnyH_take (i := 0) (oi := { dst := some 45, op := Op.move (Operand.tmp 13), type := 26, pos := "law.go:130", after := #[], guard := none }) (v := ?vv9_11_0) rfl (by kernel_rfl) (by kernel_rfl) (by kernel_rfl) (fun _ _ _ h => h) (Or.inl ⟨by rfl, ?yy9_11_0⟩) hHeld ?_
        case yy9_11_0 => (intro W hx; go_simp; try with_reducible rfl)
        simp only [Act.put, List.setIfInBounds_toArray, List.set_cons_zero, List.set_cons_succ]
        refine wpAnyH_take (i := 1) (oi := { dst := some 46, op := Op.move (Operand.tmp 15), type := 3, pos := "law.go:130", after := #[], guard := none }) (v := ?vv10_11_1) rfl (by kernel_rfl) (by kernel_rfl) (by kernel_rfl) (fun _ _ _ h => h) (Or.inl ⟨by rfl, ?yy10_11_1⟩) hHeld ?_
        case yy10_11_1 => (intro W hx; go_simp; try with_reducible rfl)
        simp only [Act.put, List.setIfInBounds_toArray, List.set_cons_zero, List.set_cons_succ]
        refine wpAnyH_take (i := 2) (oi := { dst := some 47, op := Op.indexAddr 26 (Operand.tmp 45) (Operand.tmp 46), type := 0, pos := "law.go:130", after := #[{ on := 0, ground := Ground.data }, { on := 1, ground := Ground.data }], guard := none }) (v := ?vv11_11_2) rfl (by kernel_rfl) (by kernel_rfl) (by kernel_rfl) (fun _ _ _ h => h) (Or.inl ⟨by rfl, ?yy11_11_2⟩) hHeld ?_
        case yy11_11_2 => (intro W hx; go_simp; try with_reducible rfl)
        simp only [Act.put, List.setIfInBounds_toArray, List.set_cons_zero, List.set_cons_succ]
        refine wpAnyH_take (i := 3) (oi := { dst := some 48, op := Op.load 41 (Operand.tmp 47), type := 41, pos := "law.go:130", after := #[{ on := 2, ground := Ground.data }], guard := none }) (v := ?vv12_11_3) rfl (by kernel_rfl) (by kernel_rfl) (by kernel_rfl) (fun _ _ _ h => h) (Or.inl ⟨by rfl, ?yy12_11_3⟩) hHeld ?_
        case yy12_11_3 => (intro W hx; have q9 := hx.2; go_simp; try with_reducible rfl)
        simp only [Act.put, List.setIfInBounds_toArray, List.set_cons_zero, List.set_cons_succ]
        refine wpAnyH_take (i := 4) (oi := { dst := some 49, op := Op.load 34 (Operand.tmp 4), type := 34, pos := "law.go:130", after := #[], guard := none }) (v := ?vv13_11_4) rfl (by kernel_rfl) (by kernel_rfl) (by kernel_rfl) (fun _ _ _ h => h) (Or.inl ⟨by rfl, ?yy13_11_4⟩) hHeld ?_
        case yy13_11_4 => (intro W hx; refine ld_op (frAt hx.1) ?_; rfl)
        simp only [Act.put, List.setIfInBounds_toArray, List.set_cons_zero, List.set_cons_succ]
        refine wpAnyH_ready (rs := [5]) (by kernel_rfl) (by simp) (AllReadyH.cons rfl (fun K hK => ?_) AllReadyH.nil)
        go_simp
        go_wp2_with (go_at_call 13; (refine (send_n PD HG.out HS.out hf HSD.out).mono ?_); rintro e w5 ⟨rfl, N5, _⟩)
        refine hK.out _ _ (⟨(N5.x.block _ (blk_lt kfR)).trans kfR, ptr_cell' N5.shA rfl HG.out⟩) (fun hHeld => ?_)
        clear hK K
        refine wpAnyH_take (i := 6) (oi := { dst := some 51, op := Op.binOp BinOp.neq 40 (Operand.tmp 50) (Operand.const (Value.int IntKind.i64 0)) 40, type := 4, pos := "law.go:130", after := #[{ on := 5, ground := Ground.data }], guard := none }) (v := ?vv14_11_6) rfl (by kernel_rfl) (by kernel_rfl) (by kernel_rfl) (fun _ _ _ h => h) (Or.inl ⟨by rfl, ?yy14_11_6⟩) hHeld ?_
        case yy14_11_6 => (intro W hx; go_simp; try with_reducible rfl)
        simp only [Act.put, List.setIfInBounds_toArray, List.set_cons_zero, List.set_cons_succ]
        refine wpAnyH_done (by kernel_rfl) ?_ _
        have N5 := Lib.hid N5
        clear PD hHeld hcA kf4 N4
        go_upto_region 14 with (first
          | (go_at_call 15; (refine (turn_n lost N5.out HG9.out HP.out rfl).mono ?_); rintro e w6 ⟨rfl, N6, _⟩)
          | refine wpList_stnew rfl 34 _ _ rfl rfl f.vals rfl rfl size37 rfl (fr_one f) ?_)
        obtain ⟨w7, hw7⟩ : ∃ V, V = w6.alloc (.cells f.vals.toArray 34) := ⟨_, rfl⟩
        have k17 : w7.heap[w6.heap.size]? = some (.cells f.vals.toArray 34 (0, 0)) := by rw [hw7]; exact heap_alloc_new _ _
        have x7 : Ext w6 w7 := by rw [hw7]; exact (Ext.refl _).alloc _
        rw [← hw7]
        clear hw7
        have N7 := Lib.hid (N6.ext x7)
        have kf7 := (N7.out.x.block _ (blk_lt kfR)).trans kfR
        have hne : ∀ V, (binOp .neq 34 (.agg f.vals.toArray) (.agg f.vals.toArray)).run Try.prog V = .ok (.bool false) V := fun V => by rw [run_neF]; simp
        clear N5 N6
        go_wp2_with (first
          | refine wpList_ldrowG rfl 34 _ rfl k17 rfl Try.underlying34 rfl size37 ?_
          | refine wpList_ldrowG rfl 34 _ rfl kf7 rfl Try.underlying34 rfl size37 ?_)
        generalize hts : ssN (flN f (of3 a0 a1 a2) 3) 3 = ts at N7 HRX
        clear hts
        go_loopg [79] 3 (fun gk i wr2 => ∃ (k : Nat) (ss : List BSt), i = .int .i64 k ∧ k ≤ 3 ∧ gk = 3 - k ∧ NN wr 0 0 wr2 (some ⟨bA, oA, none⟩) aC bA' bC' gs hs ss ts ∧ ∀ (j : Nat) (s : BSt), k ≤ j → ss[j]? = some s → s.rx = if comes (of3 a0 a1 a2) wi lost j = true then [f] else [])
        case atStart => exact ⟨0, _, rfl, by omega, rfl, N7.out, fun j s _ hs => HRX.out j s hs⟩
        case round =>
          clear N7 HRX kf7 k17 x7
          obtain ⟨k, ss, rfl, hk, rfl, hN, hrx⟩ := hrel
          obtain ⟨wr2, rfl⟩ : ∃ z : World, z = wr := ⟨_, rfl⟩
          by_cases hlt : k < 3
          · have hkg : (k : Int) < gs.length := by rw [HG3.out]; omega
            have hk3 : (k : Int) < 3 := by omega
            have hk0 : (0 : Int) ≤ k := by omega
            obtain ⟨g, hg⟩ : ∃ g, gs[k]? = some g := ⟨_, List.getElem?_eq_getElem (show k < gs.length by rw [HG3.out]; exact hlt)⟩
            obtain ⟨s, hs⟩ : ∃ s, ss[k]? = some s := ⟨_, List.getElem?_eq_getElem (show k < ss.length by rw [← hN.lenA, HG3.out]; exact hlt)⟩
            have hcA := ptr_cell' hN.shA rfl hg
            obtain ⟨bk, hbk⟩ : ∃ bk, of3 a0 a1 a2 k = bk := ⟨_, rfl⟩
            have clR := cell_of_row _ _ k _ _ _ klR
            rw [all3 (p := fun i => (#[Value.bool a0, .bool a1, .bool a2])[i]? = some (.bool (of3 a0 a1 a2 i))) rfl rfl rfl k hlt, hbk] at clR
            by_cases hkw : k = wi
            · subst hkw
              have HRX := Lib.hid (hrx k s (Nat.le_refl _) hs)
              rw [show comes (of3 a0 a1 a2) k lost k = false by simp [comes, *]] at HRX
              have HRV := Lib.hid (recv_zero1 (s := s) (f := f) HRX.out)
              have HE := Lib.hid (And.intro hs hrx)
              have HG := Lib.hid hg
              have HN := Lib.hid hN
              clear hs hrx hg hN HRX
              go_upto_region 20 with (first
                | (go_at_call 19; (refine (recv_n HN.out HG.out HE.out.1 HRV.out).mono ?_); rintro e w8 ⟨rfl, N8, _⟩)
                | refine wpList_stnew rfl 34 _ _ rfl rfl Fr.zero.vals rfl rfl size37 rfl (fr_one Fr.zero) ?_)
              obtain ⟨w9, hw9⟩ : ∃ V, V = w8.alloc (.cells Fr.zero.vals.toArray 34) := ⟨_, rfl⟩
              have k21 : w9.heap[w8.heap.size]? = some (.cells Fr.zero.vals.toArray 34 (0, 0)) := by rw [hw9]; exact heap_alloc_new _ _
              have x9 : Ext w8 w9 := by rw [hw9]; exact (Ext.refl _).alloc _
              rw [← hw9]
              clear hw9
              have N9 := Lib.hid (N8.ext x9)
              have kf9 := (N9.out.x.block _ (blk_lt kfR)).trans kfR
              have cl9 := (Below.cell N9.out.x (p := ⟨w.heap.size + 1, k, none⟩) (blk_lt klR)).trans clR
              clear N8
              go_wp2_with (first
                | refine wpList_ldrowG rfl 34 _ rfl k21 rfl Try.underlying34 rfl size37 ?_
                | refine wpList_ldrowG rfl 34 _ rfl kf9 rfl Try.underlying34 rfl size37 ?_)
              go_roundg (3 - (k + 1))
              case measure => omega
              case rel =>
                refine ⟨k + 1, _, by go_num, by omega, rfl, N9.out, fun j t hj ht => ?_⟩
                rw [List.getElem?_set_ne (by omega)] at ht
                exact HE.out.2 j t (by omega) ht
            · have hkb : ((k : Int) != wi) = true := by simp; omega
              have hkc : ¬ ((k : Int) = wi) := by omega
              cases bk
              · have HRX := Lib.hid (hrx k s (Nat.le_refl _) hs)
                rw [show comes (of3 a0 a1 a2) wi lost k = false by simp [comes, *]] at HRX
                have HRV := Lib.hid (recv_zero1 (s := s) (f := f) HRX.out)
                have HE := Lib.hid (And.intro hs hrx)
                have HG := Lib.hid hg
                have HN := Lib.hid hN
                clear hs hrx hg hN HRX
                go_upto_region 20 with (first
                  | (go_at_call 19; (refine (recv_n HN.out HG.out HE.out.1 HRV.out).mono ?_); rintro e w8 ⟨rfl, N8, _⟩)
                  | refine wpList_stnew rfl 34 _ _ rfl rfl Fr.zero.vals rfl rfl size37 rfl (fr_one Fr.zero) ?_)
                obtain ⟨w9, hw9⟩ : ∃ V, V = w8.alloc (.cells Fr.zero.vals.toArray 34) := ⟨_, rfl⟩
                have k21 : w9.heap[w8.heap.size]? = some (.cells Fr.zero.vals.toArray 34 (0, 0)) := by rw [hw9]; exact heap_alloc_new _ _
                have x9 : Ext w8 w9 := by rw [hw9]; exact (Ext.refl _).alloc _
                rw [← hw9]
                clear hw9
                have N9 := Lib.hid (N8.ext x9)
                have kf9 := (N9.out.x.block _ (blk_lt kfR)).trans kfR
                have cl9 := (Below.cell N9.out.x (p := ⟨w.heap.size + 1, k, none⟩) (blk_lt klR)).trans clR
                clear N8
                go_wp2_with (first
                  | refine wpList_ldrowG rfl 34 _ rfl k21 rfl Try.underlying34 rfl size37 ?_
                  | refine wpList_ldrowG rfl 34 _ rfl kf9 rfl Try.underlying34 rfl size37 ?_)
                go_roundg (3 - (k + 1))
                case measure => omega
                case rel =>
                  refine ⟨k + 1, _, by go_num, by omega, rfl, N9.out, fun j t hj ht => ?_⟩
                  rw [List.getElem?_set_ne (by omega)] at ht
                  exact HE.out.2 j t (by omega) ht
              · cases lost
                · have HRX := Lib.hid (hrx k s (Nat.le_refl _) hs)
                  rw [show comes (of3 a0 a1 a2) wi false k = true by simp [comes, *]] at HRX
                  have HRV := Lib.hid (recv_one1 (s := s) (f := f) HRX.out)
                  have HE := Lib.hid (And.intro hs hrx)
                  have HG := Lib.hid hg
                  have HN := Lib.hid hN
                  clear hs hrx hg hN HRX
                  go_upto_region 20 with (first
                    | (go_at_call 19; (refine (recv_n HN.out HG.out HE.out.1 HRV.out).mono ?_); rintro e w8 ⟨rfl, N8, _⟩)
                    | refine wpList_stnew rfl 34 _ _ rfl rfl f.vals rfl rfl size37 rfl (fr_one f) ?_)
                  obtain ⟨w9, hw9⟩ : ∃ V, V = w8.alloc (.cells f.vals.toArray 34) := ⟨_, rfl⟩
                  have k21 : w9.heap[w8.heap.size]? = some (.cells f.vals.toArray 34 (0, 0)) := by rw [hw9]; exact heap_alloc_new _ _
                  have x9 : Ext w8 w9 := by rw [hw9]; exact (Ext.refl _).alloc _
                  rw [← hw9]
                  clear hw9
                  have N9 := Lib.hid (N8.ext x9)
                  have kf9 := (N9.out.x.block _ (blk_lt kfR)).trans kfR
                  have cl9 := (Below.cell N9.out.x (p := ⟨w.heap.size + 1, k, none⟩) (blk_lt klR)).trans clR
                  clear N8
                  go_wp2_with (first
                    | refine wpList_ldrowG rfl 34 _ rfl k21 rfl Try.underlying34 rfl size37 ?_
                    | refine wpList_ldrowG rfl 34 _ rfl kf9 rfl Try.underlying34 rfl size37 ?_)
                  go_roundg (3 - (k + 1))
                  case measure => omega
                  case rel =>
                    refine ⟨k + 1, _, by go_num, by omega, rfl, N9.out, fun j t hj ht => ?_⟩
                    rw [List.getElem?_set_ne (by omega)] at ht
                    exact HE.out.2 j t (by omega) ht
                · have HRX := Lib.hid (hrx k s (Nat.le_refl _) hs)
                  rw [show comes (of3 a0 a1 a2) wi true k = false by simp [comes, *]] at HRX
                  have HRV := Lib.hid (recv_zero1 (s := s) (f := f) HRX.out)
                  have HE := Lib.hid (And.intro hs hrx)
                  have HG := Lib.hid hg
                  have HN := Lib.hid hN
                  clear hs hrx hg hN HRX
                  go_upto_region 20 with (first
                    | (go_at_call 19; (refine (recv_n HN.out HG.out HE.out.1 HRV.out).mono ?_); rintro e w8 ⟨rfl, N8, _⟩)
                    | refine wpList_stnew rfl 34 _ _ rfl rfl Fr.zero.vals rfl rfl size37 rfl (fr_one Fr.zero) ?_)
                  obtain ⟨w9, hw9⟩ : ∃ V, V = w8.alloc (.cells Fr.zero.vals.toArray 34) := ⟨_, rfl⟩
                  have k21 : w9.heap[w8.heap.size]? = some (.cells Fr.zero.vals.toArray 34 (0, 0)) := by rw [hw9]; exact heap_alloc_new _ _
                  have x9 : Ext w8 w9 := by rw [hw9]; exact (Ext.refl _).alloc _
                  rw [← hw9]
                  clear hw9
                  have N9 := Lib.hid (N8.ext x9)
                  have kf9 := (N9.out.x.block _ (blk_lt kfR)).trans kfR
                  have cl9 := (Below.cell N9.out.x (p := ⟨w.heap.size + 1, k, none⟩) (blk_lt klR)).trans clR
                  clear N8
                  go_wp2_with (first
                    | refine wpList_ldrowG rfl 34 _ rfl k21 rfl Try.underlying34 rfl size37 ?_
                    | refine wpList_ldrowG rfl 34 _ rfl kf9 rfl Try.underlying34 rfl size37 ?_)
                  go_roundg (3 - (k + 1))
                  case measure => omega
                  case rel =>
                    refine ⟨k + 1, _, by go_num, by omega, rfl, N9.out, fun j t hj ht => ?_⟩
                    rw [List.getElem?_set_ne (by omega)] at ht
                    exact HE.out.2 j t (by omega) ht
          · obtain rfl : k = 3 := by omega
            have hkg : ¬ ((3 : Int) < gs.length) := by rw [HG3.out]; omega
            have HX := Lib.hid (X0.out.trans hN.x)
            clear hN hrx
            go_wp2
            go_ret
            exact ⟨rfl, HX.out⟩
end Go.Proofs.Ytjdabmadpclbaaa
