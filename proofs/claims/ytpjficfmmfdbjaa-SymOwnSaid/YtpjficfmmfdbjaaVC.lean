import Derived.Test.YtpjficfmmfdbjaaVB
set_option linter.unusedVariables false
set_option linter.unusedSimpArgs false
namespace Go.Proofs.Ytpjficfmmfdbjaa
open Go.RowKit
def pair (y : Sy) : ByteArray × Value := (y.s, .agg y.vals.toArray)
/-- how a table of names begins. -/
def newE (l : List Sy) : Int := if 64 < l.length then 3 else if l.all Sy.may = false then 1 else if (l.map Sy.s).Nodup then 0 else 180
/-- a table. -/
def Tab (w : World) (lo g : Nat) (l : List Sy) : Prop := lo ≤ g ∧ ∃ b, lo ≤ b ∧ g ≠ b ∧ w.heap[g]? = some (.cells #[.map (some b)] 61 (0, 0)) ∧ MapS w b (l.map pair) ∧ (l.map Sy.s).Nodup
theorem Tab.kept {w w' : World} {lo g : Nat} {l : List Sy} {F : Nat → Prop} (h : Tab w lo g l) (k : Kept F w w') (hF : ∀ b, lo ≤ b → b < w.heap.size → ¬ F b) : Tab w' lo g l := by
  obtain ⟨h1, b, h2, h3, h4, h5, h6⟩ := h
  exact ⟨h1, b, h2, h3, k.blk h4 (hF g h1 (blk_lt h4)), h5.kept k (hF b h2 h5.lt), h6⟩
theorem Tab.ext {w w' : World} {lo g : Nat} {l : List Sy} (h : Tab w lo g l) (x : Ext w w') : Tab w' lo g l := h.kept (F := fun _ => False) (.of_ext x) (fun _ _ _ h => h)
theorem may_sy (y : Sy) (w : World) (hs : y.s.size ≤ maxLen) : Calls Try.prog 15 #[.agg y.vals.toArray] w fun e w' => e = .returned (.bool y.may) ∧ Ext w w' := may_any y.s y.ar y.aa y.wd y.bg y.sg y.mu y.ad w hs
theorem rmay_sy (y : Sy) (w : World) (hs : y.s.size ≤ maxLen) : Calls Try.prog 16 #[.agg y.vals.toArray] w fun e w' => e = .returned (.bool y.may) ∧ Ext w w' := rmay_any y.s y.ar y.aa y.wd y.bg y.sg y.mu y.ad w hs
theorem pair_key (l : List Sy) : (l.map pair).map (·.1) = l.map Sy.s := by simp [pair]
theorem take_map_succ {α β : Type} (f : α → β) {l : List α} {k : Nat} {a : α} (h : l[k]? = some a) : (l.take (k + 1)).map f = (l.take k).map f ++ [f a] := by rw [List.take_add_one, h]; simp
theorem nodup_snoc {α : Type} {l : List α} {a : α} : (l ++ [a]).Nodup ↔ l.Nodup ∧ a ∉ l := by
  rw [List.nodup_append]
  constructor
  · rintro ⟨h1, _, h3⟩
    exact ⟨h1, fun hm => h3 a hm a (by simp) rfl⟩
  · rintro ⟨h1, h2⟩
    exact ⟨h1, by simp, fun x hx y hy e => by simp at hy; subst hy; subst e; exact h2 hx⟩
/-- what the map holds behind k names. -/
def Held (w : World) (b : Nat) (l : List Sy) (k : Nat) : Prop := ∃ L, MapS w b L ∧ (((l.take k).map Sy.s).Nodup ∧ L = (l.take k).map pair ∨ ¬ ((l.take k).map Sy.s).Nodup ∧ L.length < k)
theorem held_put {w' : World} {b : Nat} {l : List Sy} {k : Nat} {y : Sy} {L : List (ByteArray × Value)} (hy : l[k]? = some y) (hk : k < l.length) (h : ((l.take k).map Sy.s).Nodup ∧ L = (l.take k).map pair ∨ ¬ ((l.take k).map Sy.s).Nodup ∧ L.length < k)
    (hc : (y.s ∉ L.map (·.1) ∧ MapS w' b (L ++ [(y.s, .agg y.vals.toArray)])) ∨ (y.s ∈ L.map (·.1) ∧ ∃ L', MapS w' b L' ∧ L'.length = L.length)) : Held w' b l (k + 1) := by
  have hkl : ((l.take k).map pair).length = k := by rw [List.length_map, List.length_take]; omega
  rcases h with ⟨h1, rfl⟩ | ⟨h1, h2⟩
  · rw [pair_key] at hc
    rcases hc with ⟨h3, h4⟩ | ⟨h3, L', h4, h5⟩
    · exact ⟨_, h4, .inl ⟨by rw [take_map_succ Sy.s hy, nodup_snoc]; exact ⟨h1, h3⟩, by rw [take_map_succ pair hy]; rfl⟩⟩
    · exact ⟨_, h4, .inr ⟨by rw [take_map_succ Sy.s hy, nodup_snoc]; exact fun h => h.2 h3, by rw [h5, hkl]; omega⟩⟩
  · rcases hc with ⟨h3, h4⟩ | ⟨h3, L', h4, h5⟩
    · exact ⟨_, h4, .inr ⟨by rw [take_map_succ Sy.s hy, nodup_snoc]; exact fun h => h1 h.1, by simp; omega⟩⟩
    · exact ⟨_, h4, .inr ⟨by rw [take_map_succ Sy.s hy, nodup_snoc]; exact fun h => h1 h.1, by omega⟩⟩
theorem new_long {w : World} {A : Option Addr} {n c : Nat} (h : 64 < n) : Calls Try.prog 17 #[.slice A n c] w fun e w' => e = .returned (.tuple #[.pointer none, .int .i64 3]) ∧ w = w' := by
  have h' : (64 : Int) < n := by omega
  clear h
  go_enter Try.func17, Try.ntmps17
  go_wp2
  go_ret2
  exact ⟨rfl, rfl⟩
theorem run_mk (n : Nat) (w : World) : (Instr.makeMap 59 (some (.int .i64 (n : Int)))).run Try.prog w = .ok (.map (some w.heap.size)) (w.alloc (.map #[] 0)) := by
  simp [Instr.makeMap, run_underlying Try.underlying59, asInt]
  rfl
set_option maxRecDepth 100000 in
set_option maxHeartbeats 4000000 in
theorem new_short {w : World} {A : Option Addr} {n c : Nat} {l : List Sy} (hs : Shows w 8 A n (sys l)) (hn : n = l.length) (hok : ∀ y ∈ l, y.ok) (h : n ≤ 64) :
    Calls Try.prog 17 #[.slice A n c] w fun e w' => ∃ p, e = .returned (.tuple #[.pointer p, .int .i64 (newE l)]) ∧ Ext w w' ∧ (newE l = 0 → ∃ g, p = some ⟨g, 0, none⟩ ∧ Tab w' w.heap.size g l) ∧ (newE l ≠ 0 → p = none) := by
  have h' : ¬ (64 : Int) < n := by omega
  have HL := Lib.hid (And.intro hs (And.intro hn hok))
  have hnm : (n : Int) < 9223372036854775808 := by omega
  clear hs hn hok
  have hmk := run_mk
  go_enter Try.func17, Try.ntmps17
  go_upto_region 5 with (fail)
  clear hmk
  obtain ⟨w1, hw1⟩ : ∃ V, V = w.alloc (.map #[] 0) := ⟨_, rfl⟩
  have k1 : w1.heap[w.heap.size]? = some (.map #[] 0) := by rw [hw1]; exact heap_alloc_new _ _
  have x1 : Ext w w1 := by rw [hw1]; exact (Ext.refl _).alloc _
  have hsz1 : w1.heap.size = w.heap.size + 1 := by rw [hw1]; exact Array.size_push _
  obtain ⟨b, hb⟩ : ∃ b, b = w.heap.size := ⟨_, rfl⟩
  obtain ⟨g, hg⟩ : ∃ g, g = b + 1 := ⟨_, rfl⟩
  obtain ⟨w2, hw2⟩ : ∃ V, V = w1.alloc (.cells #[.map (some b)] 61) := ⟨_, rfl⟩
  have k2 : w2.heap[g]? = some (.cells #[.map (some b)] 61 (0, 0)) := by rw [hw2, hg, hb, ← hsz1]; exact heap_alloc_new _ _
  have x2 : Ext w1 w2 := by rw [hw2]; exact (Ext.refl _).alloc _
  have m2 : MapS w2 b [] := ⟨#[], 0, by rw [hb]; exact (x2.block _ (blk_lt k1)).trans k1, rfl, by simp⟩
  rw [← hw1, ← hb, ← hw2, ← hg]
  have HB := Lib.hid (show w.heap.size ≤ b ∧ w.heap.size ≤ g ∧ g ≠ b by omega)
  have H2 := Lib.hid (And.intro k2 (And.intro m2 (x1.trans x2)))
  clear hw1 hw2 hsz1 hb hg k1 k2 x1 x2 m2
  go_loopw [17] (fun v wr => ∃ k : Nat, v = .int .i64 k ∧ k ≤ n ∧ Ext w wr ∧ wr.heap[g]? = some (.cells #[.map (some b)] 61 (0, 0)) ∧ Held wr b l k ∧ (l.take k).all Sy.may = true) (fun v _ => n - (intOf v).toNat)
  case atStart => exact ⟨0, rfl, Nat.zero_le _, H2.out.2.2, H2.out.1, ⟨[], H2.out.2.1, .inl ⟨by simp, rfl⟩⟩, rfl⟩
  case round =>
    obtain ⟨k, rfl, hk, xr, kg, hH, hall⟩ := hrel
    obtain ⟨wo, rfl⟩ : ∃ z : World, z = wr := ⟨_, rfl⟩
    have HH := Lib.hid (And.intro hH hall)
    have HKG := Lib.hid kg
    clear hH hall
    by_cases hlt : k < n
    · have hkn : (k : Int) < n := by omega
      obtain ⟨y, hy⟩ : ∃ y, l[k]? = some y := ⟨_, List.getElem?_eq_getElem (by have := HL.out.2.1; omega)⟩
      obtain ⟨b5, o5, hA', hb5, hr⟩ := Shows.row sy_len (by omega) (HL.out.1.ext xr) HL.out.2.1 hy
      have HY := Lib.hid (And.intro hy (HL.out.2.2 y (List.mem_of_getElem? hy)))
      subst hA'
      clear hy kg
      obtain ⟨w5, hw5⟩ : ∃ V, V = wo.alloc (.cells y.vals.toArray 24) := ⟨_, rfl⟩
      have k5 : w5.heap[wo.heap.size]? = some (.cells y.vals.toArray 24 (0, 0)) := by rw [hw5]; exact heap_alloc_new _ _
      have x5 : Ext wo w5 := by rw [hw5]; exact (Ext.refl _).alloc _
      go_upto_region 7 with (first | refine wpList_load_mid rfl 24 _ rfl _ _ rfl y.vals _ hr Try.underlying24 rfl size24 ?_ | refine wpList_stnew rfl 24 _ _ rfl rfl y.vals rfl rfl size24 rfl (sy_one y) ?_)
      rw [← hw5]
      clear hw5 hr
      have HK5 := Lib.hid k5
      rcases hm : y.may with _ | _
      · have HM := Lib.hid hm
        clear hm
        go_wp2_with (first | refine wpList_ldrow rfl 24 _ rfl k5 rfl Try.underlying24 rfl size24 ?_ | (go_at_call 15; (refine (may_sy y _ HY.out.2.s).mono ?_); rw [HM.out]; rintro e w6 ⟨rfl, x6⟩))
        go_ret2
        have hne : newE l = 1 := by
          unfold newE
          rw [if_neg (by have := HL.out.2.1; omega), if_pos]
          rw [List.all_eq_false]
          exact ⟨y, List.mem_of_getElem? HY.out.1, by rw [HM.out]; simp⟩
        exact ⟨none, (by rw [hne]; rfl), xr.trans (x5.trans x6), (fun h => by rw [hne] at h; cases h), fun _ => rfl⟩
      · have HM := Lib.hid hm
        clear hm
        go_upto_region 9 with (first | refine wpList_ldrow rfl 24 _ rfl k5 rfl Try.underlying24 rfl size24 ?_ | (go_at_call 15; (refine (may_sy y _ HY.out.2.s).mono ?_); rw [HM.out]; rintro e w6 ⟨rfl, x6⟩))
        have k6 := (x6.block _ (blk_lt HK5.out)).trans HK5.out
        have HK6 := Lib.hid k6
        have HG6 := Lib.hid (((x5.trans x6).block _ (blk_lt HKG.out)).trans HKG.out)
        have HX6 := Lib.hid (x5.trans x6)
        obtain ⟨L, hL, hcase⟩ := HH.out.1
        have HML := Lib.hid (hL.ext HX6.out)
        have HCS := Lib.hid hcase
        clear k5 k6 hL hcase x5 x6
        refine wp_regionL (Kept (· = b) w6) (Ext w6) 7 (by kernel_rfl) (Kept.of_ext (Ext.refl _).drew) ((Ext.refl _).drew) (fun hL => ?_)
        have hP := hL.1
        have hE : Ext w6 (World.drew w6) := (Ext.refl _).drew
        obtain ⟨wD1, hwD⟩ : ∃ V, V = World.drew w6 := ⟨_, rfl⟩
        rw [← hwD] at hL hP hE ⊢
        clear hwD
        refine wpAnyL_takeP (i := 0) (oi := { dst := some 24, op := Op.move (Operand.tmp 4), type := 36, pos := "sym.go:29", after := #[], guard := none }) (v := ?vv2_9_0) rfl (by kernel_rfl) (by kernel_rfl) (by kernel_rfl) (by kernel_rfl) (fun _ _ _ h => h) (Or.inl ⟨by rfl, ?yy2_9_0⟩) hL (fun hL => ?_)
        case yy2_9_0 => (intro W hx; go_simp; try with_reducible rfl)
        simp only [Act.put, List.setIfInBounds_toArray, List.set_cons_zero, List.set_cons_succ]
        refine wpAnyL_takeP (i := 1) (oi := { dst := some 25, op := Op.nilCheck (Operand.tmp 24), type := 0, pos := "sym.go:29", after := #[{ on := 0, ground := Ground.data }], guard := none }) (v := ?vv3_9_1) rfl (by kernel_rfl) (by kernel_rfl) (by kernel_rfl) (by kernel_rfl) (fun _ _ _ h => h) (Or.inl ⟨by rfl, ?yy3_9_1⟩) hL (fun hL => ?_)
        case yy3_9_1 => (intro W hx; go_simp; try with_reducible rfl)
        simp only [Act.put, List.setIfInBounds_toArray, List.set_cons_zero, List.set_cons_succ]
        refine wpAnyL_takeP (i := 2) (oi := { dst := some 26, op := Op.fieldAddr 61 (Operand.tmp 25) 0, type := 0, pos := "sym.go:29", after := #[{ on := 1, ground := Ground.data }], guard := none }) (v := ?vv4_9_2) rfl (by kernel_rfl) (by kernel_rfl) (by kernel_rfl) (by kernel_rfl) (fun _ _ _ h => h) (Or.inl ⟨by rfl, ?yy4_9_2⟩) hL (fun hL => ?_)
        case yy4_9_2 => (intro W hx; go_simp; try with_reducible rfl)
        simp only [Act.put, List.setIfInBounds_toArray, List.set_cons_zero, List.set_cons_succ]
        refine wpAnyL_takeB (i := 3) [7] (oi := { dst := some 27, op := Op.load 59 (Operand.tmp 26), type := 59, pos := "sym.go:29", after := #[{ on := 2, ground := Ground.data }], guard := none }) (v := ?vv5_9_3) rfl (by kernel_rfl) (by kernel_rfl) (by kernel_rfl) (by kernel_rfl) (fun _ _ _ h => h) (by kernel_rfl) (Or.inl ⟨by rfl, ?yy5_9_3⟩) hL (fun hL => ?_)
        case yy5_9_3 => (intro W hx; have m0 := blk_cell (i := 0) (v := .map (some b)) ((hx.2.block _ (blk_lt HG6.out)).trans HG6.out) rfl; go_simp; try with_reducible rfl)
        simp only [Act.put, List.setIfInBounds_toArray, List.set_cons_zero, List.set_cons_succ]
        refine wpAnyL_takeP (i := 4) (oi := { dst := some 28, op := Op.fieldAddr 24 (Operand.tmp 6) 0, type := 0, pos := "sym.go:29", after := #[], guard := none }) (v := ?vv6_9_4) rfl (by kernel_rfl) (by kernel_rfl) (by kernel_rfl) (by kernel_rfl) (fun _ _ _ h => h) (Or.inl ⟨by rfl, ?yy6_9_4⟩) hL (fun hL => ?_)
        case yy6_9_4 => (intro W hx; go_simp; try with_reducible rfl)
        simp only [Act.put, List.setIfInBounds_toArray, List.set_cons_zero, List.set_cons_succ]
        refine wpAnyL_takeB (i := 5) [7] (oi := { dst := some 29, op := Op.load 9 (Operand.tmp 28), type := 9, pos := "sym.go:29", after := #[{ on := 4, ground := Ground.data }], guard := none }) (v := ?vv7_9_5) rfl (by kernel_rfl) (by kernel_rfl) (by kernel_rfl) (by kernel_rfl) (fun _ _ _ h => h) (by kernel_rfl) (Or.inl ⟨by rfl, ?yy7_9_5⟩) hL (fun hL => ?_)
        case yy7_9_5 => (intro W hx; have m0 := blk_cell (i := 0) (v := .string y.s) ((hx.2.block _ (blk_lt HK6.out)).trans HK6.out) rfl; go_simp; try with_reducible rfl)
        simp only [Act.put, List.setIfInBounds_toArray, List.set_cons_zero, List.set_cons_succ]
        refine wpAnyL_takeB (i := 6) [7] (oi := { dst := some 30, op := Op.load 24 (Operand.tmp 6), type := 24, pos := "sym.go:29", after := #[], guard := none }) (v := ?vv8_9_6) rfl (by kernel_rfl) (by kernel_rfl) (by kernel_rfl) (by kernel_rfl) (fun _ _ _ h => h) (by kernel_rfl) (Or.inl ⟨by rfl, ?yy8_9_6⟩) hL (fun hL => ?_)
        case yy8_9_6 => (intro W hx; refine ld_op (y := y) (syAt ((hx.2.block _ (blk_lt HK6.out)).trans HK6.out)) ?_; rfl)
        simp only [Act.put, List.setIfInBounds_toArray, List.set_cons_zero, List.set_cons_succ]
        refine wpAnyL_ready (rs := [7]) (by kernel_rfl) (by simp) (AllReadyL.cons rfl (fun K hK => ?_) AllReadyL.nil)
        rw [if_pos (by rfl)]
        refine wp_mapput (o := { dst := none, op := Op.mapUpdate 59 (Operand.tmp 27) (Operand.tmp 29) (Operand.tmp 30), type := 0, pos := "sym.go:29", after := #[{ on := 3, ground := Ground.data }, { on := 5, ground := Ground.data }, { on := 6, ground := Ground.data }, { on := 0, ground := Ground.phase }, { on := 1, ground := Ground.phase }, { on := 2, ground := Ground.phase }, { on := 3, ground := Ground.phase }, { on := 4, ground := Ground.phase }, { on := 5, ground := Ground.phase }, { on := 6, ground := Ground.phase }], guard := none }) _ _ _ rfl rfl rfl rfl (HML.out.ext hE) HY.out.2.s ?_; intro w9 x9 hc9
        simp only [Act.put]
        replace hP := hP.trans' (Kept.of_grown x9 (fun b e => by injection e with e; exact e.symm))
        clear hE
        clear hL
        refine hK.out _ _ ⟨hP, fun e => absurd e (by simp)⟩ (fun hL => ?_)
        clear hK K
        refine wpAnyL_done (by kernel_rfl) ?_ _
        have hkl : k < l.length := by rw [← HL.out.2.1]; exact hlt
        have HP9 := Lib.hid (And.intro hP (held_put HY.out.1 hkl HCS.out hc9))
        go_wp2
        go_roundw
        case rel => exact ⟨k + 1, by go_num, by omega, (xr.trans HX6.out).kept HP9.out.1 (fun i hi => by rw [hi]; exact HB.out.1), HP9.out.1.blk HG6.out HB.out.2.2, HP9.out.2, by rw [List.take_add_one, HY.out.1]; simp only [Option.toList_some, List.all_append, HH.out.2, Bool.true_and]; simp [HM.out]⟩
        case measure => simp [intOf]; omega
    · obtain rfl : k = n := by omega
      obtain ⟨L, hL, hcase⟩ := HH.out.1
      obtain ⟨es, cl, hbm, hlen⟩ := map_len hL
      have hall := HH.out.2
      rw [HL.out.2.1, List.take_length] at hall
      have m0 := blk_cell (i := 0) (v := .map (some b)) HKG.out rfl
      obtain ⟨ez, hez⟩ : ∃ z, z = es.size := ⟨_, rfl⟩
      have HC := Lib.hid (And.intro hL (And.intro hall (hez.trans hlen)))
      have HEZ := Lib.hid hez
      have hgo := MapKept.run_getObj_map (P := Try.prog) hbm
      have hln : (Builtin.len_ #[59] 3 #[.map (some b)]).run Try.prog wo = .ok (.int .i64 (ez : Int)) wo := by
        rw [hez]
        simp [Builtin.len_, run_underlying Try.underlying59, hgo]
        rfl
      clear hgo hez hlen hall hL hbm kg
      rcases hcase with ⟨h1, hLe⟩ | ⟨h1, h2⟩
      · have he : ez = k := by rw [HC.out.2.2, hLe, List.length_map, List.length_take]; have := HL.out.2.1; omega
        have hne : newE l = 0 := by
          unfold newE
          rw [HL.out.2.1, List.take_length] at h1
          rw [if_neg (by have := HL.out.2.1; omega), if_neg (by rw [HC.out.2.1]; simp), if_pos h1]
        have HT := Lib.hid (show Tab wo w.heap.size g l from by
          have hM := HC.out.1
          rw [hLe, HL.out.2.1, List.take_length] at hM
          rw [HL.out.2.1, List.take_length] at h1
          exact ⟨HB.out.2.1, b, HB.out.1, HB.out.2.2, HKG.out, hM, h1⟩)
        have HNE := Lib.hid hne
        clear h1 hLe hne
        subst he
        go_wp2
        go_ret2
        exact ⟨some ⟨g, 0, none⟩, (by rw [HNE.out]; rfl), xr, (fun _ => ⟨g, rfl, HT.out⟩), (fun h => absurd HNE.out h)⟩
      · have he : ez < k := by rw [HC.out.2.2]; exact h2
        have heI : (ez : Int) < k := by omega
        have hne : newE l = 180 := by
          unfold newE
          rw [HL.out.2.1, List.take_length] at h1
          rw [if_neg (by have := HL.out.2.1; omega), if_neg (by rw [HC.out.2.1]; simp), if_neg h1]
        have HNE := Lib.hid hne
        clear h1 h2 hne
        go_wp2
        go_ret2
        exact ⟨none, (by rw [HNE.out]; rfl), xr, (fun h => by rw [HNE.out] at h; cases h), fun _ => rfl⟩
def findS (l : List Sy) (s : ByteArray) : Sy × Bool := match l.find? (fun y => decide (y.s = s)) with
  | some y => (y, true)
  | none => (zsy, false)
theorem findS_no {l : List Sy} {s : ByteArray} (h : s ∉ l.map Sy.s) : findS l s = (zsy, false) := by
  unfold findS
  have : l.find? (fun y => decide (y.s = s)) = none := by
    rw [List.find?_eq_none]
    intro y hy
    simp only [decide_eq_true_eq]
    exact fun e => h (List.mem_map.2 ⟨y, hy, e⟩)
  rw [this]
theorem findS_yes : ∀ {l : List Sy} {y : Sy}, (l.map Sy.s).Nodup → y ∈ l → findS l y.s = (y, true)
  | [], _, _, h => by cases h
  | x :: l, y, hd, h => by
    unfold findS
    simp only [List.map_cons, List.nodup_cons] at hd
    rcases List.mem_cons.1 h with rfl | h
    · simp
    · have hne : x.s ≠ y.s := fun e => hd.1 (List.mem_map.2 ⟨y, h, e.symm⟩)
      rw [List.find?_cons_of_neg (by simpa using hne)]
      exact findS_yes hd.2 h
theorem find_nil (s : ByteArray) (w : World) : Calls Try.prog 19 #[.pointer none, .string s] w fun e w' => e = .returned (.tuple #[.agg zsy.vals.toArray, .bool false]) ∧ Ext w w' := by
  obtain ⟨w0, hw0⟩ : ∃ V, V = w.alloc (.cells zsy.vals.toArray 24) := ⟨_, rfl⟩
  have k0 : w0.heap[w.heap.size]? = some (.cells zsy.vals.toArray 24 (0, 0)) := by rw [hw0]; exact heap_alloc_new _ _
  have x0 : Ext w w0 := by rw [hw0]; exact (Ext.refl _).alloc _
  go_enter Try.func19, Try.ntmps19
  go_upto_region 1 with (fail)
  change Code.wp _ _ _ _ (w.alloc (.cells zsy.vals.toArray 24))
  rw [← hw0]
  clear hw0
  go_wp2_with (refine wpList_strow rfl 24 (.tmp 4) (.tmp 10) rfl k0 rfl rfl size24 rfl (all_oneCell_toArray (sy_one zsy)) ?_; intro w5 k5 x5)
  try simp only [Exit.inBlock, Exit.then]
  refine bodyPost_ret (results_row2 rfl rfl k5.out Try.underlying24 rfl (by kernel_rfl)) rfl ?_
  exact ⟨rfl, Ext.of_grown x0 x5 (fun k e => by injection e with e; omega)⟩
theorem find_any {w : World} {lo g : Nat} {l : List Sy} (h : Tab w lo g l) {s : ByteArray} (hs : s.size ≤ maxLen) : Calls Try.prog 19 #[.pointer (some ⟨g, 0, none⟩), .string s] w fun e w' => e = .returned (.tuple #[.agg (findS l s).1.vals.toArray, .bool (findS l s).2]) ∧ Ext w w' := by
  obtain ⟨w0, hw0⟩ : ∃ V, V = w.alloc (.cells zsy.vals.toArray 24) := ⟨_, rfl⟩
  have k0 : w0.heap[w.heap.size]? = some (.cells zsy.vals.toArray 24 (0, 0)) := by rw [hw0]; exact heap_alloc_new _ _
  have x0 : Ext w w0 := by rw [hw0]; exact (Ext.refl _).alloc _
  obtain ⟨h1, b, h2, h3, h4, h5, h6⟩ := h.ext x0
  have m0 := blk_cell (i := 0) (v := .map (some b)) h4 rfl
  have hlk : ∃ y : Sy, ∃ ok : Bool, findS l s = (y, ok) ∧ (Instr.lookup 59 (.map (some b)) (.string s) true).run Try.prog w0 = .ok (.tuple #[.agg y.vals.toArray, .bool ok]) w0 := by
    rcases map_get h5 hs (zero24 w0) with ⟨a1, a2⟩ | ⟨v, a1, a2⟩
    · rw [pair_key] at a1
      exact ⟨zsy, false, findS_no a1, a2⟩
    · obtain ⟨y, hy, e⟩ := List.mem_map.1 a1
      injection e with e1 e2
      subst e1 e2
      exact ⟨y, true, findS_yes h6 hy, a2⟩
  obtain ⟨y, ok, hf, hl⟩ := hlk
  rw [hf]
  clear h hf h1 h2 h3 h4 h5 h6
  go_enter Try.func19, Try.ntmps19
  go_upto_region 1 with (fail)
  change Code.wp _ _ _ _ (w.alloc (.cells zsy.vals.toArray 24))
  rw [← hw0]
  clear hw0
  go_upto_region 4 with (refine wpList_stnew rfl 24 _ _ rfl rfl y.vals rfl rfl size24 rfl (sy_one y) ?_)
  obtain ⟨w1, hw1⟩ : ∃ V, V = w0.alloc (.cells y.vals.toArray 24) := ⟨_, rfl⟩
  have k1 : w1.heap[w0.heap.size]? = some (.cells y.vals.toArray 24 (0, 0)) := by rw [hw1]; exact heap_alloc_new _ _
  have x1 : Ext w0 w1 := by rw [hw1]; exact (Ext.refl _).alloc _
  rw [← hw1]
  have k01 := (x1.block _ (blk_lt k0)).trans k0
  clear hw1 hl m0
  go_wp2_with (first | refine wpList_ldrow rfl 24 (.tmp 6) rfl k1 rfl Try.underlying24 rfl (by kernel_rfl) ?_ | (refine wpList_strow rfl 24 (.tmp 4) (.tmp 20) rfl k01 rfl rfl size24 rfl (all_oneCell_toArray (sy_one y)) ?_; intro w5 k5 x5))
  try simp only [Exit.inBlock, Exit.then]
  refine bodyPost_ret (results_row2 rfl rfl k5.out Try.underlying24 rfl (by kernel_rfl)) rfl ?_
  exact ⟨rfl, Ext.of_grown (x0.trans x1) x5 (fun k e => by injection e with e; omega)⟩
end Go.Proofs.Ytpjficfmmfdbjaa
