import Derived.Test.YtjdabmadpclbaaaD
import Derived.Test.YtjdabmadpclbaaaObj
import Derived.Test.YtjdabmadpclbaaaM
set_option linter.unusedVariables false
set_option linter.unusedSimpArgs false
namespace Go.Proofs.Ytjdabmadpclbaaa
open Go.RowKit
section
variable {P : Program} {w : World}
/-- a new variable of a struct is written as a whole. -/
theorem wpList_stnew {ops : Array Oper} {rest : List Oper} {o : Oper} {a : Act} {Q : Exit → Act → World → Prop} (hgd : o.guard = none) (ty : TypeId) (x y : Operand) (ho : o.op = .store ty x y)
    {w1 : World} {z : Array Value} {t : TypeId} (hw : w = w1.alloc (.cells z t)) (vs : List Value) (hx : a.eval x = .pointer (some ⟨w1.heap.size, 0, none⟩)) (hy : a.eval y = .agg vs.toArray)
    (hi : (P.info? ty).map (·.size) = some vs.length) (hz : z.size = vs.length) (h1 : ∀ v ∈ vs, v.oneCell' = true)
    (h : wpList P ops Q rest (a.put o.dst undef) (w1.alloc (.cells vs.toArray t))) : wpList P ops Q (o :: rest) a w := by
  subst hw
  refine wpList_store_row hgd ty x y ho w1.heap.size vs.toArray hx hy t z (heap_alloc_new _ _) (by simpa using hi) (by simpa using hz) (all_oneCell_toArray h1) ?_
  have e : (w1.alloc (.cells z t)).setRow w1.heap.size vs.toArray = w1.alloc (.cells vs.toArray t) := by
    unfold World.setRow World.alloc
    congr 1
    apply Array.ext
    · simp
    · intro i h1 h2
      simp only [Array.getElem_modify, Array.getElem_push]
      split
      · rename_i hk; subst hk; simp
      · rename_i hk
        have : i < w1.heap.size := by simp at h2; omega
        simp [this]
  rw [e]; exact h
end
theorem fr_one (f : Fr) : ∀ v ∈ f.vals, v.oneCell' = true := by
  intro v hv
  simp [Fr.vals] at hv
  rcases hv with rfl | rfl | rfl | rfl | rfl | rfl | rfl | rfl | rfl | rfl | rfl <;> rfl
theorem frAt {w : World} {g : Nat} {f : Fr} {t : TypeId} {fr : Nat × Nat} (h : w.heap[g]? = some (.cells f.vals.toArray t fr)) : w.rangeAt g 0 f.vals := fun j v hj => by
  rw [cell_of_row w g (0 + j) _ t fr h]; simpa using hj
theorem ld_op {w : World} {b o : Nat} {f : Fr} {ρ : Operand → Value} {dst : Option Tmp} {x : Operand} {ty : TypeId} {pos : String} {af : Array Edge} {gd : Option (Nat × Bool)} (h : w.rangeAt b o f.vals) (hx : ρ x = .pointer (some ⟨b, o, none⟩)) :
    (execOp ρ { dst := dst, op := .load 34 x, type := ty, pos := pos, after := af, guard := gd }).run Try.prog w = .ok (.value (.agg f.vals.toArray)) w := by
  unfold execOp
  simp only [hx, Instr.loadAt, Instr.sureAddr, Sem.run_bind, Sem.run_pure, Result.andThen_ok, run_loadVar_mid w b o 34 f.vals _ h Try.underlying34 rfl size37]
def rk (l : List Fr) (i : Nat) : Int := (l.getD i Fr.zero).rank
def bestTo (l : List Fr) : Nat → Nat
  | 0 => 0
  | k + 1 => if rk l k < rk l (bestTo l k) then k else bestTo l k
theorem bestTo_lt (l : List Fr) : ∀ k, bestTo l k < k ∨ bestTo l k = 0
  | 0 => .inr rfl
  | k + 1 => by
    simp only [bestTo]
    split
    · exact .inl (by omega)
    · rcases bestTo_lt l k with h | h
      · exact .inl (by omega)
      · exact .inr h
def best (l : List Fr) : Nat := bestTo l l.length
theorem best_lt {l : List Fr} (h : l ≠ []) : best l < l.length := by
  have : 0 < l.length := List.length_pos_iff.2 h
  rcases bestTo_lt l l.length with h | h
  · exact h
  · unfold best; omega
theorem getD_at {l : List Fr} {k : Nat} (h : k < l.length) : l[k]? = some (l.getD k Fr.zero) := by simp [List.getD, List.getElem?_eq_getElem h]
theorem cells4 {w : World} {g : Nat} {t : TypeId} {fr : Nat × Nat} {x0 x1 x2 x3 : Value} (h : w.heap[g]? = some (.cells #[x0, x1, x2, x3] t fr)) :
    w.cell? ⟨g, 0, none⟩ = some x0 ∧ w.cell? ⟨g, 1, none⟩ = some x1 ∧ w.cell? ⟨g, 2, none⟩ = some x2 ∧ w.cell? ⟨g, 3, none⟩ = some x3 := by
  refine ⟨?_, ?_, ?_, ?_⟩ <;> (rw [cell_of_row _ _ _ _ _ _ h]; rfl)
set_option maxHeartbeats 2000000 in
theorem first_any (g : Nat) (fA : Option Addr) (fn fc : Nat) (tA : Option Addr) (tc : Nat) (rA : Option Addr) (rn rc : Nat) (lost : Bool) (l : List Fr) (w : World) (K : w.heap[g]? = some (.cells #[.slice fA fn fc, .slice tA l.length tc, .slice rA rn rc, .bool lost] 71 (0, 0)))
    (hs : Shows w 11 tA l.length (frs l)) (hok : ∀ f ∈ l, f.ok) (hl : l.length ≤ 100) :
    Calls Try.prog 39 #[.pointer (some ⟨g, 0, none⟩)] w fun e w' => e = .returned (.int .i64 (best l)) ∧ Ext w w' := by
  obtain ⟨f0, f1, f2, f3⟩ := cells4 K
  go_enter Try.func39, Try.ntmps39
  go_wp2
  go_loopw [3, 11] (fun b i wr => ∃ k : Nat, i = .int .i64 k ∧ k ≤ l.length ∧ b = .int .i64 (bestTo l k) ∧ Ext w wr) (fun _ i _ => l.length - (intOf i).toNat)
  case atStart => exact ⟨0, rfl, by omega, rfl, Ext.refl _⟩
  case round =>
    obtain ⟨k, rfl, hk, rfl, x⟩ := hrel
    by_cases hlt : k < l.length
    · have hkl : (k : Int) < l.length := by omega
      have hf := getD_at hlt
      obtain ⟨b, o, rfl, hb, hr⟩ := Shows.fr (hs.ext x) rfl hf
      have hl1 := ld_fr hr
      generalize hff : l.getD k Fr.zero = f at hr hl1 hf
      have hbl : bestTo l k < l.length := by rcases bestTo_lt l k with h | h <;> omega
      go_upto_region 5 with (first | refine wpList_load_mid rfl 34 _ rfl _ _ rfl f.vals _ hr Try.underlying34 rfl size37 ?_ | refine wpList_stnew rfl 34 _ _ rfl rfl f.vals rfl rfl size37 rfl (fr_one f) ?_)
      obtain ⟨W0, hW⟩ : ∃ V, V = wr.alloc (.cells f.vals.toArray 34) := ⟨_, rfl⟩
      have x0 : Ext wr W0 := by rw [hW]; exact (Ext.refl _).alloc _
      have k0 : W0.heap[wr.heap.size]? = some (.cells f.vals.toArray 34 (0, 0)) := by rw [hW]; exact heap_alloc_new _ _
      rw [← hW]
      clear hW
      have xw := x.trans x0
      have kb := (xw.block _ (blk_lt K)).trans K
      obtain ⟨b2, o2, hb2, _, hr2⟩ := Shows.fr (hs.ext xw) rfl (getD_at hbl)
      injection hb2 with hb2
      injection hb2 with hb2 ho2
      subst hb2 ho2
      have hok1 : f.ok := hok _ (List.mem_of_getElem? hf)
      have hok2 := hok _ (List.mem_of_getElem? (getD_at hbl))
      have hrk : rk l k = f.rank := by rw [rk, hff]
      generalize hgg : l.getD (bestTo l k) Fr.zero = y at hr2 hok2
      have hrk2 : rk l (bestTo l k) = y.rank := by rw [rk, hgg]
      have hbn : bestTo l (k + 1) = if f.rank < y.rank then k else bestTo l k := by rw [bestTo, hrk, hrk2]
      clear f0 f1 f2 f3 hrk hrk2 hgg hff
      have HBN := Lib.hid hbn
      clear hbn
      have hbb : (bestTo l k : Int) < l.length := by omega
      have hb0 : (0 : Int) ≤ bestTo l k := by omega
      generalize bestTo l k = bb at *
      refine wp_region_held_drew (S := Ext W0) (by kernel_rfl) ((Ext.refl _).drew) (fun hHeld => ?_)
      obtain ⟨wD1, hwD⟩ : ∃ V, V = World.drew W0 := ⟨_, rfl⟩
      rw [← hwD]
      clear hHeld
      have zz0 : Ext W0 wD1 := by rw [hwD]; exact (Ext.refl _).drew
      clear hwD
      refine wpAnyH_imp (S' := Ext wD1) (fun W h => Ext.trans zz0 h) _ _ _ _ ?_
      have hHeld := Ext.refl wD1
      refine wpAnyH_take (i := 0) (oi := { dst := some 16, op := Op.load 34 (Operand.tmp 5), type := 34, pos := "box.go:53", after := #[], guard := none }) (v := ?vv2_5_0) rfl (by kernel_rfl) (by kernel_rfl) (by kernel_rfl) (fun _ _ _ h => h) (Or.inl ⟨by rfl, ?yy2_5_0⟩) hHeld ?_
      case yy2_5_0 => (intro W hx; have hz := zz0.trans hx; refine ld_op (rangeAt_ext (frAt k0) hz) ?_; rfl)
      simp only [Act.put, List.setIfInBounds_toArray, List.set_cons_zero, List.set_cons_succ]
      refine wpAnyH_take (i := 2) (oi := { dst := some 18, op := Op.move (Operand.tmp 0), type := 41, pos := "box.go:53", after := #[], guard := none }) (v := ?vv3_5_2) rfl (by kernel_rfl) (by kernel_rfl) (by kernel_rfl) (fun _ _ _ h => h) (Or.inl ⟨by rfl, ?yy3_5_2⟩) hHeld ?_
      case yy3_5_2 => (intro W hx; go_simp; try with_reducible rfl)
      simp only [Act.put, List.setIfInBounds_toArray, List.set_cons_zero, List.set_cons_succ]
      refine wpAnyH_take (i := 3) (oi := { dst := some 19, op := Op.nilCheck (Operand.tmp 18), type := 0, pos := "box.go:53", after := #[{ on := 2, ground := Ground.data }], guard := none }) (v := ?vv4_5_3) rfl (by kernel_rfl) (by kernel_rfl) (by kernel_rfl) (fun _ _ _ h => h) (Or.inl ⟨by rfl, ?yy4_5_3⟩) hHeld ?_
      case yy4_5_3 => (intro W hx; go_simp; try with_reducible rfl)
      simp only [Act.put, List.setIfInBounds_toArray, List.set_cons_zero, List.set_cons_succ]
      refine wpAnyH_take (i := 4) (oi := { dst := some 20, op := Op.fieldAddr 71 (Operand.tmp 19) 1, type := 0, pos := "box.go:53", after := #[{ on := 3, ground := Ground.data }], guard := none }) (v := ?vv5_5_4) rfl (by kernel_rfl) (by kernel_rfl) (by kernel_rfl) (fun _ _ _ h => h) (Or.inl ⟨by rfl, ?yy5_5_4⟩) hHeld ?_
      case yy5_5_4 => (intro W hx; go_simp; try with_reducible rfl)
      simp only [Act.put, List.setIfInBounds_toArray, List.set_cons_zero, List.set_cons_succ]
      refine wpAnyH_take (i := 5) (oi := { dst := some 21, op := Op.load 51 (Operand.tmp 20), type := 51, pos := "box.go:53", after := #[{ on := 4, ground := Ground.data }], guard := none }) (v := ?vv6_5_5) rfl (by kernel_rfl) (by kernel_rfl) (by kernel_rfl) (fun _ _ _ h => h) (Or.inl ⟨by rfl, ?yy6_5_5⟩) hHeld ?_
      case yy6_5_5 => (intro W hx; have hz := zz0.trans hx; have q2 := blk_cell (i := 1) ((hz.block _ (blk_lt kb)).trans kb) rfl; go_simp; try with_reducible rfl)
      simp only [Act.put, List.setIfInBounds_toArray, List.set_cons_zero, List.set_cons_succ]
      refine wpAnyH_take (i := 6) (oi := { dst := some 22, op := Op.move (Operand.tmp 3), type := 3, pos := "box.go:53", after := #[], guard := none }) (v := ?vv7_5_6) rfl (by kernel_rfl) (by kernel_rfl) (by kernel_rfl) (fun _ _ _ h => h) (Or.inl ⟨by rfl, ?yy7_5_6⟩) hHeld ?_
      case yy7_5_6 => (intro W hx; go_simp; try with_reducible rfl)
      simp only [Act.put, List.setIfInBounds_toArray, List.set_cons_zero, List.set_cons_succ]
      refine wpAnyH_take (i := 7) (oi := { dst := some 23, op := Op.indexAddr 51 (Operand.tmp 21) (Operand.tmp 22), type := 0, pos := "box.go:53", after := #[{ on := 5, ground := Ground.data }, { on := 6, ground := Ground.data }], guard := none }) (v := ?vv8_5_7) rfl (by kernel_rfl) (by kernel_rfl) (by kernel_rfl) (fun _ _ _ h => h) (Or.inl ⟨by rfl, ?yy8_5_7⟩) hHeld ?_
      case yy8_5_7 => (intro W hx; go_simp; try with_reducible rfl)
      simp only [Act.put, List.setIfInBounds_toArray, List.set_cons_zero, List.set_cons_succ]
      refine wpAnyH_take (i := 8) (oi := { dst := some 24, op := Op.load 34 (Operand.tmp 23), type := 34, pos := "box.go:53", after := #[{ on := 7, ground := Ground.data }], guard := none }) (v := ?vv9_5_8) rfl (by kernel_rfl) (by kernel_rfl) (by kernel_rfl) (fun _ _ _ h => h) (Or.inl ⟨by rfl, ?yy9_5_8⟩) hHeld ?_
      case yy9_5_8 => (intro W hx; have hz := zz0.trans hx; refine ld_op (rangeAt_ext hr2 hz) ?_; rfl)
      simp only [Act.put, List.setIfInBounds_toArray, List.set_cons_zero, List.set_cons_succ]
      refine wpAnyH_ready (rs := [1]) (by kernel_rfl) (by simp) (AllReadyH.cons rfl (fun K hK => ?_) AllReadyH.nil)
      go_simp
      go_wp2_with (go_at_call 29; (refine (rank_fr _ _ hok1).mono ?_); rintro e w1 ⟨rfl, x1⟩)
      refine hK.out _ _ x1 (fun hHeld => ?_)
      clear hK K
      refine wpAnyH_imp (S' := Ext w1) (fun W h => Ext.trans x1 h) _ _ _ _ ?_
      replace hHeld := Ext.refl w1
      have zz1 := zz0.trans x1
      refine wpAnyH_ready (rs := [9]) (by kernel_rfl) (by simp) (AllReadyH.cons rfl (fun K hK => ?_) AllReadyH.nil)
      go_simp
      go_wp2_with (go_at_call 29; (refine (rank_fr _ _ hok2).mono ?_); rintro e w2 ⟨rfl, x2⟩)
      refine hK.out _ _ x2 (fun hHeld => ?_)
      clear hK K
      refine wpAnyH_imp (S' := Ext w2) (fun W h => Ext.trans x2 h) _ _ _ _ ?_
      replace hHeld := Ext.refl w2
      have zz2 := zz1.trans x2
      refine wpAnyH_take (i := 10) (oi := { dst := some 26, op := Op.binOp BinOp.lss 31 (Operand.tmp 17) (Operand.tmp 25) 31, type := 4, pos := "box.go:53", after := #[{ on := 1, ground := Ground.data }, { on := 9, ground := Ground.data }], guard := none }) (v := ?vv10_5_10) rfl (by kernel_rfl) (by kernel_rfl) (by kernel_rfl) (fun _ _ _ h => h) (Or.inl ⟨by rfl, ?yy10_5_10⟩) hHeld ?_
      case yy10_5_10 => (intro W hx; go_simp; try with_reducible rfl)
      simp only [Act.put, List.setIfInBounds_toArray, List.set_cons_zero, List.set_cons_succ]
      refine wpAnyH_done (by kernel_rfl) ?_ _
      have zend := zz2.trans hHeld
      by_cases hlt2 : f.rank < y.rank
      · go_wp2
        go_roundw
        case rel => exact ⟨k + 1, by go_num, by omega, by rw [HBN.out, if_pos hlt2], xw.trans zend⟩
        case measure => simp [intOf]; omega
      · go_wp2
        go_roundw
        case rel => exact ⟨k + 1, by go_num, by omega, by rw [HBN.out, if_neg hlt2], xw.trans zend⟩
        case measure => simp [intOf]; omega
    · obtain rfl : k = l.length := by omega
      go_wp2
      go_ret
      exact ⟨rfl, x⟩
end Go.Proofs.Ytjdabmadpclbaaa
