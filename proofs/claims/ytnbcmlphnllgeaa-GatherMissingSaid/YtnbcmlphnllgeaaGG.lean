import Derived.Test.YtnbcmlphnllgeaaGF
set_option linter.unusedVariables false
set_option linter.unusedSimpArgs false
namespace Go.Proofs.Ytnbcmlphnllgeaa
open Go.RowKit
theorem take_any {w : World} {g : Nat} {ls : List Gl} {lv : Value} {T : Nat → Option Nat} (h : GaC w g ls lv T) (kind : Int) {code : Int} (hc : 0 ≤ code ∧ code < 256) {A : Option Addr} {n : Nat} (c : Nat) {bs : List Int} (hr : Rd w A n bs) (hn : n ≤ 100000) : Calls Try.prog 13 #[.pointer (some ⟨g, 0, none⟩), .agg #[.int .u8 kind, .int .u8 code, .slice A n c]] w (TakeQ ls lv T g (takeG (ls.map Gl.p) kind code bs) w) := by
  by_cases hk : kind = 4
  · subst hk
    rcases e : findG (ls.map Gl.p) (tabG code) with _ | ⟨i, k, b⟩
    · exact take_none h hc A n c bs (by rw [e]; rfl)
    · cases b with
      | false => exact take_none h hc A n c bs (by rw [e]; rfl)
      | true => exact take_ok h hc hr hn e
  · exact take_kind h hk code A n c bs
def newGp (x : Ls) : Gp := ⟨x.n, x.stim, false, []⟩
def newGl (x : Ls) : Gl := ⟨x.n, x.stim, false, .slice none 0 0, []⟩
theorem newGl_p (x : Ls) : (newGl x).p = newGp x := rfl
section
variable {w w1 w2 : World} {g : Nat} {ls : List Gl} {lv v : Value} {T : Nat → Option Nat} {x : Gl} {B : Nat}
theorem ga_app (h : GaC w g ls lv T) (xx : Ext w w1) (own : w2.ownsRow 0 69 4 v (ls.length + 1) (gls ls ++ gls [x])) (gr : w1.grownBy w2 lv.ownBlock) (hb : v.ownBlock = some B) (hat : v.ownBlock = lv.ownBlock ∨ v.ownBlock = some w1.heap.size) (hx : x.v = .slice none 0 0 ∧ x.els = [] ∧ x.tables ≤ 100000) (hl : ls.length < 100) :
    w2.cell? ⟨g, 0, none⟩ = some lv ∧ w2.frozen? ⟨g, 0, none⟩ = false ∧ ∃ T', GaC (w2.setCell ⟨g, 0, none⟩ v) g (ls ++ [x]) v T' ∧ Kept (fun b => T b ≠ none) w (w2.setCell ⟨g, 0, none⟩ v) ∧ ∀ b, T' b ≠ none → T b ≠ none ∨ w.heap.size ≤ b := by
  have k : Kept (fun b => T b = some 1) w1 w2 := .of_grown gr (fun b e => h.rT b e)
  have h1 := h.ext xx
  have s1 := xx.size
  have hBg : B ≠ g := fun e => by
    rcases hat with a | a
    · have := h.rT B (by rw [← a, hb]); rw [e, h.g0] at this; cases this
    · rw [a] at hb; injection hb with hb; have := blk_lt h.obj; omega
  have hTB : T B = some 1 ∨ w.heap.size ≤ B := by
    rcases hat with a | a
    · exact .inl (h.rT B (by rw [← a, hb]))
    · rw [a] at hb; injection hb with hb; exact .inr (by omega)
  have hobj2 : w2.heap[g]? = some (.cells #[lv] 67 (0, 0)) := k.blk h1.obj (by rw [h.g0]; simp)
  have ks : Kept (fun b => b = g) w2 (w2.setCell ⟨g, 0, none⟩ v) := Kept.of_set _ rfl
  have hne : ∀ b t, T b = some t → t ≠ 1 → b ≠ B := fun b t e ht e2 => by
    subst e2
    rcases hTB with a | a
    · rw [e] at a; injection a with a; exact ht a
    · have := h.lt b t e; omega
  refine ⟨blk_cell hobj2 rfl, blk_free hobj2, fun b => if b = B then some 1 else T b, ⟨?_, ?_, ?_, ?_, ?_, ?_, ?_, ?_⟩, ?_, ?_⟩
  · have := blk_set (i := 0) (v := v) hobj2
    simpa using this
  · rw [if_neg (fun e => hBg e.symm), h.g0]
  · rw [List.length_append, gls_app]
    exact own_keptF own ks (fun b e e2 => by rw [hb] at e; injection e with e; exact hBg (by omega))
  · intro b e
    rw [hb] at e
    injection e with e
    rw [if_pos e.symm]
  · intro j y hj
    by_cases hjl : j < ls.length
    · rw [List.getElem?_append_left hjl] at hj
      refine (((h1.bl j y hj).kept k (fun b hb' e => by rw [hb'] at e; injection e with e; omega)).kept ks (fun b hb' e => by rw [e, h.g0] at hb'; injection hb' with hb'; omega)).mono (fun b _ hb' => ?_)
      rw [if_neg (hne b _ hb' (by omega)), hb']
    · rw [List.getElem?_append_right (by omega)] at hj
      have hj0 : j - ls.length = 0 := by
        have := (List.getElem?_eq_some_iff.1 hj).1
        simp at this
        omega
      rw [hj0] at hj
      injection hj with hj
      subst hj
      rw [hx.1, hx.2.1]
      exact BL.nil _ _
  · intro b t e
    have sz : w2.heap.size ≤ (w2.setCell ⟨g, 0, none⟩ v).heap.size := ks.size
    have sg := k.size
    by_cases hbB : b = B
    · subst hbB; have := own_lt own hb; omega
    · rw [if_neg hbB] at e; have := h.lt b t e; omega
  · intro y hy
    rcases List.mem_append.1 hy with hy | hy
    · exact h.tb y hy
    · simp at hy; subst hy; exact ⟨hx.2.2, by rw [hx.2.1]; exact Nat.zero_le _⟩
  · simp; omega
  · exact ((Kept.of_ext xx).trans' (k.mono (G := fun b => T b ≠ none) (fun b _ e => by rw [e]; simp))).trans' (ks.mono (fun b _ e => by rw [e, h.g0]; simp))
  · intro b hb'
    by_cases hbB : b = B
    · subst hbB
      rcases hTB with a | a
      · exact .inl (by rw [a]; simp)
      · exact .inr a
    · simp only [if_neg hbB] at hb'; exact .inl hb'
end
theorem ls_at {w : World} {b : Nat} {x : Ls} {t : TypeId} {fr : Nat × Nat} (K : w.heap[b]? = some (.cells x.vals.toArray t fr)) : w.cell? ⟨b, 1, none⟩ = some (.slice x.A x.n x.c) ∧ w.cell? ⟨b, 2, none⟩ = some (.bool x.stim) := ⟨blk_cell K rfl, blk_cell K rfl⟩
set_option maxRecDepth 100000 in
set_option maxHeartbeats 8000000 in
theorem new_any {w : World} {A : Option Addr} {n : Nat} (c : Nat) {l : List Ls} (hs : Shows w 8 A n (lss l)) (hn : n = l.length) (hn100 : n ≤ 100) (hok : ∀ x ∈ l, x.ok ∧ x.n ≤ 100000) :
    Calls Try.prog 11 #[.slice A n c] w fun e w' => ∃ g ls lv T, e = .returned (.pointer (some ⟨g, 0, none⟩)) ∧ Ext w w' ∧ GaC w' g ls lv T ∧ ls.map Gl.p = l.map newGp ∧ ∀ b, T b ≠ none → w.heap.size ≤ b := by
  have HL := Lib.hid (And.intro hs (And.intro hn hok))
  clear hs hn hok
  go_enter Try.func11, Try.ntmps11
  go_upto_region 3 with (fail)
  obtain ⟨w1, hw1⟩ : ∃ V, V = w.alloc (.cells #[.slice none 0 0] 67) := ⟨_, rfl⟩
  have k1 : w1.heap[w.heap.size]? = some (.cells #[.slice none 0 0] 67 (0, 0)) := by rw [hw1]; exact heap_alloc_new _ _
  have x1 : Ext w w1 := by rw [hw1]; exact (Ext.refl _).alloc _
  obtain ⟨g, hg⟩ : ∃ g, g = w.heap.size := ⟨_, rfl⟩
  rw [← hw1, ← hg]
  rw [← hg] at k1
  have G1 : GaC w1 g [] (.slice none 0 0) (fun b => if b = g then some 0 else none) := ⟨k1, if_pos rfl, ⟨rfl, .inl ⟨rfl, rfl⟩⟩, fun b e => by simp [Value.ownBlock] at e, by simp, (fun b t e => by
    by_cases h : b = g
    · subst h; exact blk_lt k1
    · rw [if_neg h] at e; cases e), by simp, by simp⟩
  have HG1 := Lib.hid (And.intro G1 (And.intro x1 (show w.heap.size ≤ g by omega)))
  clear hw1 hg k1 x1 G1
  go_loopw [10] (fun v wr => ∃ (k : Nat) (lv : Value) (T : Nat → Option Nat), v = .int .i64 k ∧ k ≤ n ∧ Ext w wr ∧ GaC wr g ((l.take k).map newGl) lv T ∧ ∀ b, T b ≠ none → w.heap.size ≤ b) (fun v _ => n - (intOf v).toNat)
  case atStart => exact ⟨0, _, _, rfl, Nat.zero_le _, HG1.out.2.1, HG1.out.1, fun b hb => by
    have := HG1.out.2.2
    by_cases h : b = g
    · omega
    · rw [if_neg h] at hb; exact absurd rfl hb⟩
  case round =>
    obtain ⟨k, lv, T, rfl, hk, xr, hG, hT⟩ := hrel
    obtain ⟨wo, rfl⟩ : ∃ z : World, z = wr := ⟨_, rfl⟩
    have HG := Lib.hid (And.intro hG hT)
    clear hG hT
    by_cases hlt : k < n
    · have hkn : (k : Int) < n := by omega
      obtain ⟨y, hy⟩ : ∃ y, l[k]? = some y := ⟨_, List.getElem?_eq_getElem (by have := HL.out.2.1; omega)⟩
      obtain ⟨b5, o5, hA', hb5, hr⟩ := Shows.row ls_len (by omega) (HL.out.1.ext xr) HL.out.2.1 hy
      have HY := Lib.hid (And.intro hy (HL.out.2.2 y (List.mem_of_getElem? hy)))
      subst hA'
      clear hy
      go_upto_region 5 with (first | refine wpList_load_mid rfl 45 _ rfl _ _ rfl y.vals _ hr Try.underlying45 rfl size45 ?_ | refine wpList_stnew rfl 45 _ _ rfl rfl y.vals rfl rfl size45 rfl (ls_one y) ?_)
      obtain ⟨w5, hw5⟩ : ∃ V, V = wo.alloc (.cells y.vals.toArray 45) := ⟨_, rfl⟩
      have k5 : w5.heap[wo.heap.size]? = some (.cells y.vals.toArray 45 (0, 0)) := by rw [hw5]; exact heap_alloc_new _ _
      have x5 : Ext wo w5 := by rw [hw5]; exact (Ext.refl _).alloc _
      rw [← hw5]
      clear hw5 hr
      have HK5 := Lib.hid k5
      have HG5 := Lib.hid (HG.out.1.ext x5)
      obtain ⟨lA, lc, hlv, _, _, _⟩ := own_form HG5.out.row
      obtain ⟨ln, hln⟩ : ∃ z, z = ((l.take k).map newGl).length := ⟨_, rfl⟩
      have hln2 : ln = k := by rw [hln, List.length_map, List.length_take]; have := HL.out.2.1; omega
      have mo := blk_cell (i := 0) (v := lv) HG5.out.obj rfl
      have ow := HG5.out.row
      rw [hlv, ← hln] at mo ow
      have HLV := Lib.hid (And.intro hlv hln)
      have HOW := Lib.hid ow
      have HMO := Lib.hid mo
      have hln100 : ln ≤ 99 := by omega
      have HLN2 := Lib.hid hln2
      clear k5 hlv hln ow mo hln2
      refine wp_regionL (Kept (fun b => T b ≠ none) w5) (Ext w5) 12 (by kernel_rfl) (Kept.of_ext (Ext.refl _).drew) ((Ext.refl _).drew) (fun hL => ?_)
      have hP := hL.1
      have hE : Ext w5 (World.drew w5) := (Ext.refl _).drew
      obtain ⟨wD1, hwD⟩ : ∃ V, V = World.drew w5 := ⟨_, rfl⟩
      rw [← hwD] at hL hP hE ⊢
      clear hwD
      refine wpAnyL_takeP (i := 0) (oi := { dst := some 14, op := Op.move (Operand.tmp 3), type := 26, pos := "gather.go:27", after := #[], guard := none }) (v := ?vv2_5_0) rfl (by kernel_rfl) (by kernel_rfl) (by kernel_rfl) (by kernel_rfl) (fun _ _ _ h => h) (Or.inl ⟨by rfl, ?yy2_5_0⟩) hL (fun hL => ?_)
      case yy2_5_0 => (intro W hx; go_simp; try with_reducible rfl)
      simp only [Act.put, List.setIfInBounds_toArray, List.set_cons_zero, List.set_cons_succ]
      refine wpAnyL_takeP (i := 1) (oi := { dst := some 15, op := Op.move (Operand.tmp 3), type := 26, pos := "gather.go:27", after := #[], guard := none }) (v := ?vv3_5_1) rfl (by kernel_rfl) (by kernel_rfl) (by kernel_rfl) (by kernel_rfl) (fun _ _ _ h => h) (Or.inl ⟨by rfl, ?yy3_5_1⟩) hL (fun hL => ?_)
      case yy3_5_1 => (intro W hx; go_simp; try with_reducible rfl)
      simp only [Act.put, List.setIfInBounds_toArray, List.set_cons_zero, List.set_cons_succ]
      refine wpAnyL_takeP (i := 2) (oi := { dst := some 16, op := Op.nilCheck (Operand.tmp 15), type := 0, pos := "gather.go:27", after := #[{ on := 1, ground := Ground.data }], guard := none }) (v := ?vv4_5_2) rfl (by kernel_rfl) (by kernel_rfl) (by kernel_rfl) (by kernel_rfl) (fun _ _ _ h => h) (Or.inl ⟨by rfl, ?yy4_5_2⟩) hL (fun hL => ?_)
      case yy4_5_2 => (intro W hx; go_simp; try with_reducible rfl)
      simp only [Act.put, List.setIfInBounds_toArray, List.set_cons_zero, List.set_cons_succ]
      refine wpAnyL_takeP (i := 3) (oi := { dst := some 17, op := Op.fieldAddr 67 (Operand.tmp 16) 0, type := 0, pos := "gather.go:27", after := #[{ on := 2, ground := Ground.data }], guard := none }) (v := ?vv5_5_3) rfl (by kernel_rfl) (by kernel_rfl) (by kernel_rfl) (by kernel_rfl) (fun _ _ _ h => h) (Or.inl ⟨by rfl, ?yy5_5_3⟩) hL (fun hL => ?_)
      case yy5_5_3 => (intro W hx; go_simp; try with_reducible rfl)
      simp only [Act.put, List.setIfInBounds_toArray, List.set_cons_zero, List.set_cons_succ]
      refine wpAnyL_takeB (i := 4) [12] (oi := { dst := some 18, op := Op.load 65 (Operand.tmp 17), type := 65, pos := "gather.go:27", after := #[{ on := 3, ground := Ground.data }], guard := none }) (v := ?vv6_5_4) rfl (by kernel_rfl) (by kernel_rfl) (by kernel_rfl) (by kernel_rfl) (fun _ _ _ h => h) (by kernel_rfl) (Or.inl ⟨by rfl, ?yy6_5_4⟩) hL (fun hL => ?_)
      case yy6_5_4 => (intro W hx; have q1 := cell_ext hx.2 HMO.out; go_simp; try with_reducible rfl)
      simp only [Act.put, List.setIfInBounds_toArray, List.set_cons_zero, List.set_cons_succ]
      refine wpAnyL_takeP (i := 5) (oi := { dst := some 19, op := Op.fieldAddr 45 (Operand.tmp 5) 1, type := 0, pos := "gather.go:27", after := #[], guard := none }) (v := ?vv7_5_5) rfl (by kernel_rfl) (by kernel_rfl) (by kernel_rfl) (by kernel_rfl) (fun _ _ _ h => h) (Or.inl ⟨by rfl, ?yy7_5_5⟩) hL (fun hL => ?_)
      case yy7_5_5 => (intro W hx; go_simp; try with_reducible rfl)
      simp only [Act.put, List.setIfInBounds_toArray, List.set_cons_zero, List.set_cons_succ]
      refine wpAnyL_takeB (i := 6) [7, 10, 11, 12] (oi := { dst := some 20, op := Op.load 43 (Operand.tmp 19), type := 43, pos := "gather.go:27", after := #[{ on := 5, ground := Ground.data }], guard := none }) (v := ?vv8_5_6) rfl (by kernel_rfl) (by kernel_rfl) (by kernel_rfl) (by kernel_rfl) (fun _ _ _ h => h) (by kernel_rfl) (Or.inl ⟨by rfl, ?yy8_5_6⟩) hL (fun hL => ?_)
      case yy8_5_6 => (intro W hx; have q1 := (ls_at ((hx.2.block _ (blk_lt HK5.out)).trans HK5.out)).1; go_simp; try with_reducible rfl)
      simp only [Act.put, List.setIfInBounds_toArray, List.set_cons_zero, List.set_cons_succ]
      refine wpAnyL_takeP (i := 7) (oi := { dst := some 21, op := Op.call { callee := Callee.builtin Builtin.len, args := #[Operand.tmp 20], argTypes := #[43] }, type := 3, pos := "gather.go:27", after := #[{ on := 6, ground := Ground.data }], guard := none }) (v := ?vv9_5_7) rfl (by kernel_rfl) (by kernel_rfl) (by kernel_rfl) (by kernel_rfl) (fun _ _ _ h => h) (Or.inl ⟨by rfl, ?yy9_5_7⟩) hL (fun hL => ?_)
      case yy9_5_7 => (intro W hx; go_simp; try with_reducible rfl)
      simp only [Act.put, List.setIfInBounds_toArray, List.set_cons_zero, List.set_cons_succ]
      refine wpAnyL_takeP (i := 8) (oi := { dst := some 22, op := Op.fieldAddr 45 (Operand.tmp 5) 2, type := 0, pos := "gather.go:27", after := #[], guard := none }) (v := ?vv10_5_8) rfl (by kernel_rfl) (by kernel_rfl) (by kernel_rfl) (by kernel_rfl) (fun _ _ _ h => h) (Or.inl ⟨by rfl, ?yy10_5_8⟩) hL (fun hL => ?_)
      case yy10_5_8 => (intro W hx; go_simp; try with_reducible rfl)
      simp only [Act.put, List.setIfInBounds_toArray, List.set_cons_zero, List.set_cons_succ]
      refine wpAnyL_takeB (i := 9) [10, 11, 12] (oi := { dst := some 23, op := Op.load 4 (Operand.tmp 22), type := 4, pos := "gather.go:27", after := #[{ on := 8, ground := Ground.data }], guard := none }) (v := ?vv11_5_9) rfl (by kernel_rfl) (by kernel_rfl) (by kernel_rfl) (by kernel_rfl) (fun _ _ _ h => h) (by kernel_rfl) (Or.inl ⟨by rfl, ?yy11_5_9⟩) hL (fun hL => ?_)
      case yy11_5_9 => (intro W hx; have q1 := (ls_at ((hx.2.block _ (blk_lt HK5.out)).trans HK5.out)).2; go_simp; try with_reducible rfl)
      simp only [Act.put, List.setIfInBounds_toArray, List.set_cons_zero, List.set_cons_succ]
      refine wpAnyL_takeP (i := 10) (oi := { dst := some 24, op := Op.build 69 #[(0, Operand.tmp 21), (1, Operand.tmp 23)], type := 69, pos := "gather.go:27", after := #[{ on := 7, ground := Ground.data }, { on := 9, ground := Ground.data }], guard := none }) (v := ?vv12_5_10) rfl (by kernel_rfl) (by kernel_rfl) (by kernel_rfl) (by kernel_rfl) (fun _ _ _ h => h) (Or.inl ⟨by rfl, ?yy12_5_10⟩) hL (fun hL => ?_)
      case yy12_5_10 => (intro W hx; go_simp; try with_reducible rfl)
      simp only [Act.put, List.setIfInBounds_toArray, List.set_cons_zero, List.set_cons_succ]
      refine wpAnyL_ready (rs := [11]) (by kernel_rfl) (by simp) (AllReadyL.cons rfl (fun K hK => ?_) AllReadyL.nil)
      go_simp
      obtain ⟨w6, hw⟩ : ∃ V, V = World.alloc wD1 (.cells #[.int .i64 (y.n : Int), .bool y.stim, .bool false, .slice none 0 0] 69) := ⟨_, rfl⟩
      rw [← hw]
      have xb : Ext wD1 w6 := by rw [hw]; exact (Ext.refl _).alloc _
      have kb : (World.heap w6)[(World.heap wD1).size]? = some (.cells #[.int .i64 (y.n : Int), .bool y.stim, .bool false, .slice none 0 0] 69) := by rw [hw]; exact heap_alloc_new _ _
      have sh6 : Shows w6 4 (some ⟨(World.heap wD1).size, 0, none⟩) 1 (gls [newGl y]) := (by rw [hw]; exact ⟨rfl, fun _ => ⟨_, rfl, by simp, World.news_of_block (heap_alloc_new _ _)⟩⟩); have hE6 := Ext.trans hE xb; have own6 := own_ext HOW.out hE6
      clear hw
      replace hE := hE.trans xb
      replace hP := hP.then xb
      clear hL
      refine hK.out _ _ ⟨hP, fun e => hE⟩ (fun hL => ?_)
      clear hK K
      refine wpAnyL_ready (rs := [12]) (by kernel_rfl) (by simp) (AllReadyL.cons rfl (fun K hK => ?_) AllReadyL.nil)
      rw [if_pos (by rfl)]
      refine wp_appB (o := { dst := some 26, op := Op.call { callee := Callee.builtin Builtin.append, args := #[Operand.tmp 18, Operand.tmp 25], argTypes := #[65, 65] }, type := 65, pos := "gather.go:27", after := #[{ on := 4, ground := Ground.data }, { on := 11, ground := Ground.data }], guard := none }) el65 _ _ rfl own6 rfl sh6 rfl (by intro u hu; simp [gls, newGl, Gl.vals] at hu; rcases hu with rfl | rfl | rfl | rfl <;> rfl) (le_max (by omega)) (by omega) (Nat.zero_le _) ?_; intro v7 w7 own7 x7 at7; obtain ⟨B7, c7, rfl, _, _⟩ := own7.form (by omega)
      simp only [Act.put, List.setIfInBounds_toArray, List.set_cons_zero, List.set_cons_succ]
      replace hP := hP.trans' (Kept.of_grown x7 (fun b e => by rw [HG5.out.rT b (by rw [HLV.out.1, ← HLV.out.2]; exact e)]; simp))
      obtain ⟨qa, fa, T7, G7, kp7, tg7⟩ := ga_app (v := .slice (some ⟨B7, 0, none⟩) (ln + 1) c7) HG5.out hE6 (by rw [← HLV.out.2]; exact own7) (by rw [HLV.out.1, ← HLV.out.2]; exact x7) rfl (by rw [HLV.out.1, ← HLV.out.2]; exact at7) ⟨rfl, rfl, HY.out.2.2⟩ (by rw [← HLV.out.2]; omega); have HG7 := Lib.hid (And.intro G7 (And.intro kp7 tg7)); clear G7 kp7 tg7; rw [HLV.out.1, ← HLV.out.2] at qa
      clear hE
      clear hL
      refine hK.out _ _ ⟨hP, fun e => absurd e (by simp)⟩ (fun hL => ?_)
      clear hK K
      refine wpAnyL_takeP (i := 13) (oi := { dst := some 27, op := Op.nilCheck (Operand.tmp 14), type := 0, pos := "gather.go:27", after := #[{ on := 0, ground := Ground.data }, { on := 0, ground := Ground.phase }, { on := 1, ground := Ground.phase }, { on := 2, ground := Ground.phase }, { on := 3, ground := Ground.phase }, { on := 4, ground := Ground.phase }, { on := 5, ground := Ground.phase }, { on := 6, ground := Ground.phase }, { on := 7, ground := Ground.phase }, { on := 8, ground := Ground.phase }, { on := 9, ground := Ground.phase }, { on := 10, ground := Ground.phase }, { on := 11, ground := Ground.phase }, { on := 12, ground := Ground.phase }], guard := none }) (v := ?vv13_5_13) rfl (by kernel_rfl) (by kernel_rfl) (by kernel_rfl) (by kernel_rfl) (fun _ _ _ h => h) (Or.inl ⟨by rfl, ?yy13_5_13⟩) hL (fun hL => ?_)
      case yy13_5_13 => (intro W hx; go_simp; try with_reducible rfl)
      simp only [Act.put, List.setIfInBounds_toArray, List.set_cons_zero, List.set_cons_succ]
      refine wpAnyL_takeP (i := 14) (oi := { dst := some 28, op := Op.fieldAddr 67 (Operand.tmp 27) 0, type := 0, pos := "gather.go:27", after := #[{ on := 13, ground := Ground.data }, { on := 0, ground := Ground.phase }, { on := 1, ground := Ground.phase }, { on := 2, ground := Ground.phase }, { on := 3, ground := Ground.phase }, { on := 4, ground := Ground.phase }, { on := 5, ground := Ground.phase }, { on := 6, ground := Ground.phase }, { on := 7, ground := Ground.phase }, { on := 8, ground := Ground.phase }, { on := 9, ground := Ground.phase }, { on := 10, ground := Ground.phase }, { on := 11, ground := Ground.phase }, { on := 12, ground := Ground.phase }], guard := none }) (v := ?vv14_5_14) rfl (by kernel_rfl) (by kernel_rfl) (by kernel_rfl) (by kernel_rfl) (fun _ _ _ h => h) (Or.inl ⟨by rfl, ?yy14_5_14⟩) hL (fun hL => ?_)
      case yy14_5_14 => (intro W hx; go_simp; try with_reducible rfl)
      simp only [Act.put, List.setIfInBounds_toArray, List.set_cons_zero, List.set_cons_succ]
      refine wpAnyL_ready (rs := [15]) (by kernel_rfl) (by simp) (AllReadyL.cons rfl (fun K hK => ?_) AllReadyL.nil)
      rw [if_pos (by rfl)]
      refine wp_stset (o := { dst := none, op := Op.store 65 (Operand.tmp 28) (Operand.tmp 26), type := 0, pos := "gather.go:27", after := #[{ on := 14, ground := Ground.data }, { on := 12, ground := Ground.data }, { on := 12, ground := Ground.chain }, { on := 0, ground := Ground.phase }, { on := 1, ground := Ground.phase }, { on := 2, ground := Ground.phase }, { on := 3, ground := Ground.phase }, { on := 4, ground := Ground.phase }, { on := 5, ground := Ground.phase }, { on := 6, ground := Ground.phase }, { on := 7, ground := Ground.phase }, { on := 8, ground := Ground.phase }, { on := 9, ground := Ground.phase }, { on := 10, ground := Ground.phase }, { on := 11, ground := Ground.phase }, { on := 12, ground := Ground.phase }], guard := none }) (v := .slice (some ⟨B7, 0, none⟩) (ln + 1) c7) 65 _ _ rfl qa fa rfl rfl (by kernel_rfl) rfl (fun c e => by cases e) ?_; obtain ⟨w8, hw8, x8⟩ : ∃ V, V = World.setCell w7 ⟨g, 0, none⟩ (.slice (some ⟨B7, 0, none⟩) (ln + 1) c7) ∧ w7.grownBy V (some g) := ⟨_, rfl, set_grown _ _ _ _⟩; rw [← hw8]
      simp only [Act.put]
      replace hP := hP.trans' (Kept.of_grown x8 (fun b e => by injection e with e; rw [← e, HG5.out.g0]; simp))
      clear hL
      refine hK.out _ _ ⟨hP, fun e => absurd e (by simp)⟩ (fun hL => ?_)
      clear hK K
      refine wpAnyL_done (by kernel_rfl) ?_ _
      have HG8 := Lib.hid (show ∃ lv T, GaC w8 g ((l.take (k + 1)).map newGl) lv T ∧ Ext w w8 ∧ ∀ b, T b ≠ none → w.heap.size ≤ b from by
        rw [← hw8] at HG7
        refine ⟨_, T7, by rw [List.take_add_one, HY.out.1, List.map_append]; exact HG7.out.1, (xr.trans x5).kept HG7.out.2.1 HG.out.2, fun b hb => ?_⟩
        rcases HG7.out.2.2 b hb with h | h
        · exact HG.out.2 b h
        · have := (xr.trans x5).size; omega)
      obtain ⟨lv8, T8, G8, X8, hT8⟩ := HG8.out
      clear hw8 qa fa own7 at7
      have HGX := Lib.hid (And.intro G8 (And.intro X8 hT8))
      clear G8 X8 hT8
      go_wp2
      go_roundw
      case rel => exact ⟨k + 1, lv8, T8, by go_num, by omega, HGX.out.2.1, HGX.out.1, HGX.out.2.2⟩
      case measure => simp [intOf]; omega
    · obtain rfl : k = n := by omega
      go_wp2
      go_ret
      exact ⟨g, _, lv, T, rfl, xr, HG.out.1, by rw [HL.out.2.1, List.take_length, List.map_map]; rfl, HG.out.2⟩
end Go.Proofs.Ytnbcmlphnllgeaa
