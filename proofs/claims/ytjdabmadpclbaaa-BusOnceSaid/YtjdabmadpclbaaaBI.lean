import Derived.Test.YtjdabmadpclbaaaBH
set_option linter.unusedVariables false
set_option linter.unusedSimpArgs false
namespace Go.Proofs.Ytjdabmadpclbaaa
open Go.RowKit
/-- nodes: the program's boxes and the reference's, apart from one another, and the lists of them. -/
def Nodes (w0 : World) (B C : Nat) (w : World) (va vb : Value) (ga gb gs hs : List Nat) (ss ts : List BSt) : Prop := ∃ F G, Bxs w 71 gs ss F ∧ Bxs w 53 hs ts G ∧ Ext w0 w ∧ C ≤ w.heap.size ∧ (∀ k, F k → w0.heap.size ≤ k ∧ ¬ (B ≤ k ∧ k < C)) ∧ (∀ k, G k → w0.heap.size ≤ k ∧ ¬ (B ≤ k ∧ k < C)) ∧ (∀ k, F k → ¬ G k) ∧ w.ownsRow w0.heap.size 41 1 va ga.length (ptrs ga) ∧ w.ownsRow w0.heap.size 43 1 vb gb.length (ptrs gb) ∧ (∀ b, va.ownBlock = some b → ¬ F b ∧ ¬ G b) ∧ (∀ b, vb.ownBlock = some b → ¬ F b ∧ ¬ G b)
section
variable {w0 w w' : World} {B C : Nat} {va vb va' vb' : Value} {ga gb ga' gb' gs hs : List Nat} {ss ts : List BSt}
theorem Nodes.nil (w : World) : Nodes w 0 0 w (.slice none 0 0) (.slice none 0 0) [] [] [] [] [] [] :=
  ⟨_, _, Bxs.nil, Bxs.nil, Ext.refl _, Nat.zero_le _, fun k h => h.elim, fun k h => h.elim, fun k h => h.elim, World.ownsRow_nil _ _ _ _, World.ownsRow_nil _ _ _ _, (fun b e => nomatch e), (fun b e => nomatch e)⟩
theorem Nodes.x (h : Nodes w0 B C w va vb ga gb gs hs ss ts) : Ext w0 w := by obtain ⟨F, G, _, _, x, _⟩ := h; exact x
theorem Nodes.rowA (h : Nodes w0 B C w va vb ga gb gs hs ss ts) : w.ownsRow w0.heap.size 41 1 va ga.length (ptrs ga) := by obtain ⟨F, G, _, _, _, _, _, _, _, r, _⟩ := h; exact r
theorem Nodes.rowB (h : Nodes w0 B C w va vb ga gb gs hs ss ts) : w.ownsRow w0.heap.size 43 1 vb gb.length (ptrs gb) := by obtain ⟨F, G, _, _, _, _, _, _, _, _, r, _⟩ := h; exact r
theorem Nodes.lenA (h : Nodes w0 B C w va vb ga gb gs hs ss ts) : gs.length = ss.length := by obtain ⟨F, G, a, _⟩ := h; exact a.len
theorem Nodes.lenB (h : Nodes w0 B C w va vb ga gb gs hs ss ts) : hs.length = ts.length := by obtain ⟨F, G, _, a, _⟩ := h; exact a.len
theorem Nodes.okA (h : Nodes w0 B C w va vb ga gb gs hs ss ts) : ∀ s ∈ ss, s.ok := by obtain ⟨F, G, a, _⟩ := h; exact a.ok
theorem Nodes.ext (h : Nodes w0 B C w va vb ga gb gs hs ss ts) (x : Ext w w') : Nodes w0 B C w' va vb ga gb gs hs ss ts := by
  obtain ⟨F, G, a, b, c, d, e, f, g, i, j, k, l⟩ := h
  exact ⟨F, G, a.ext x, b.ext x, c.trans x, Nat.le_trans d x.size, e, f, g, own_ext i x, own_ext j x, k, l⟩
theorem Nodes.no (h : Nodes w0 B C w va vb ga gb gs hs ss ts) : Nodes w0 0 0 w va vb ga gb gs hs ss ts := by
  obtain ⟨F, G, a, b, c, d, e, f, g, i, j, k, l⟩ := h
  exact ⟨F, G, a, b, c, Nat.zero_le _, fun q hq => ⟨(e q hq).1, by omega⟩, fun q hq => ⟨(f q hq).1, by omega⟩, g, i, j, k, l⟩
theorem Nodes.hole (h : Nodes w0 B C w va vb ga gb gs hs ss ts) (x : Ext w w') : Nodes w0 w.heap.size w'.heap.size w' va vb ga gb gs hs ss ts := by
  obtain ⟨F, G, a, b, c, d, e, f, g, i, j, k, l⟩ := h
  exact ⟨F, G, a.ext x, b.ext x, c.trans x, Nat.le_refl _, fun q hq => ⟨(e q hq).1, by have := a.lt q hq; omega⟩, fun q hq => ⟨(f q hq).1, by have := b.lt q hq; omega⟩, g, own_ext i x, own_ext j x, k, l⟩
theorem Nodes.news {w1 w2 : World} {g1 h1 : Nat} {s t : BSt} {F1 G1 : Nat → Prop} (h : Nodes w0 0 0 w va vb ga gb gs hs ss ts) (x1 : Ext w w1) (b1 : BxC w1 71 g1 s F1) (n1 : ∀ k, F1 k → w.heap.size ≤ k) (x2 : Ext w1 w2) (b2 : BxC w2 53 h1 t G1) (n2 : ∀ k, G1 k → w1.heap.size ≤ k) :
    Nodes w0 0 0 w2 va vb ga gb (gs ++ [g1]) (hs ++ [h1]) (ss ++ [s]) (ts ++ [t]) := by
  obtain ⟨F, G, a, b, c, d, e, f, g, i, j, k, l⟩ := h
  have hs1 := x1.size
  refine ⟨_, _, (a.push x1 b1 n1).ext x2, (b.ext x1).push x2 b2 n2, (c.trans x1).trans x2, Nat.zero_le _, ?_, ?_, ?_, own_ext i (x1.trans x2), own_ext j (x1.trans x2), ?_, ?_⟩
  · rintro q (hq | hq)
    · exact e q hq
    · exact ⟨Nat.le_trans c.size (n1 q hq), by omega⟩
  · rintro q (hq | hq)
    · exact f q hq
    · exact ⟨Nat.le_trans (c.trans x1).size (n2 q hq), by omega⟩
  · rintro q (hq | hq) (hr | hr)
    · exact g q hq hr
    · have := a.lt q hq; have := n2 q hr; omega
    · have := b.lt q hr; have := n1 q hq; omega
    · have := b1.lt q hq; have := n2 q hr; omega
  · intro q hq
    have hlt := own_lt i hq
    exact ⟨by rintro (hr | hr); exact (k q hq).1 hr; have := n1 q hr; omega, by rintro (hr | hr); exact (k q hq).2 hr; have := n2 q hr; omega⟩
  · intro q hq
    have hlt := own_lt j hq
    exact ⟨by rintro (hr | hr); exact (l q hq).1 hr; have := n1 q hr; omega, by rintro (hr | hr); exact (l q hq).2 hr; have := n2 q hr; omega⟩
theorem Nodes.growA (h : Nodes w0 0 0 w va vb ga gb gs hs ss ts) (own : w'.ownsRow w0.heap.size 41 1 va' ga'.length (ptrs ga')) (gr : w.grownBy w' va.ownBlock) (hat : va'.ownBlock = va.ownBlock ∨ va'.ownBlock = some w.heap.size) : Nodes w0 0 0 w' va' vb ga' gb gs hs ss ts := by
  obtain ⟨F, G, a, b, c, d, e, f, g, i, j, k, l⟩ := h
  have kp : Kept (fun q => va.ownBlock = some q) w w' := .of_grown gr (fun _ h => h)
  refine ⟨F, G, a.kept kp (fun q hq h => (k q h).1 hq), b.kept kp (fun q hq h => (k q h).2 hq), Ext.of_grown c gr (fun q h => (i.lt q h).1), Nat.zero_le _, e, f, g, own, own_kept2 j i (by decide) gr, fun q hq => ?_, l⟩
  rcases hat with h | h
  · exact k q (h ▸ hq)
  · rw [hq] at h
    injection h with h
    exact ⟨fun hF => by have := a.lt q hF; omega, fun hG => by have := b.lt q hG; omega⟩
theorem Nodes.growB (h : Nodes w0 0 0 w va vb ga gb gs hs ss ts) (own : w'.ownsRow w0.heap.size 43 1 vb' gb'.length (ptrs gb')) (gr : w.grownBy w' vb.ownBlock) (hat : vb'.ownBlock = vb.ownBlock ∨ vb'.ownBlock = some w.heap.size) : Nodes w0 0 0 w' va vb' ga gb' gs hs ss ts := by
  obtain ⟨F, G, a, b, c, d, e, f, g, i, j, k, l⟩ := h
  have kp : Kept (fun q => vb.ownBlock = some q) w w' := .of_grown gr (fun _ h => h)
  refine ⟨F, G, a.kept kp (fun q hq h => (l q h).1 hq), b.kept kp (fun q hq h => (l q h).2 hq), Ext.of_grown c gr (fun q h => (j.lt q h).1), Nat.zero_le _, e, f, g, own_kept2 i j (by decide) gr, own, k, fun q hq => ?_⟩
  rcases hat with h | h
  · exact l q (h ▸ hq)
  · rw [hq] at h
    injection h with h
    exact ⟨fun hF => by have := a.lt q hF; omega, fun hG => by have := b.lt q hG; omega⟩
theorem Nodes.postA {ss' : List BSt} (h : Nodes w0 B C w va vb ga gb gs hs ss ts) : ∃ F, Bxs w 71 gs ss F ∧ (∀ b, va.ownBlock = some b → ¬ F b) ∧ ∀ w', BxsPost w 71 gs ss' F w' → Nodes w0 B C w' va vb ga gb gs hs ss' ts ∧ HoleKept B C w w' := by
  obtain ⟨F, G, a, b, c, d, e, f, g, i, j, k, l⟩ := h
  refine ⟨F, a, fun q hq => (k q hq).1, fun w' ⟨F', p, q, r⟩ => ⟨⟨F', G, p, b.kept q (fun u hu h => g u h hu), c.kept q (fun u hu => (e u hu).1), Nat.le_trans d q.size, ?_, f, ?_, own_keptF i q (fun u hu => (k u hu).1), own_keptF j q (fun u hu => (l u hu).1), ?_, ?_⟩, fun u h1 h2 => q.block u (by omega) (fun hF => (e u hF).2 ⟨h1, h2⟩)⟩⟩
  · intro u hu
    exact (r u hu).elim (e u) (fun hn => ⟨Nat.le_trans c.size hn, by omega⟩)
  · intro u hu hG
    exact (r u hu).elim (fun hF => g u hF hG) (fun hn => by have := b.lt u hG; omega)
  · intro u hu
    exact ⟨fun hF => (r u hF).elim (k u hu).1 (fun hn => by have := own_lt i hu; omega), (k u hu).2⟩
  · intro u hu
    exact ⟨fun hF => (r u hF).elim (l u hu).1 (fun hn => by have := own_lt j hu; omega), (l u hu).2⟩
theorem Nodes.postB {ts' : List BSt} (h : Nodes w0 B C w va vb ga gb gs hs ss ts) : ∃ G, Bxs w 53 hs ts G ∧ (∀ b, vb.ownBlock = some b → ¬ G b) ∧ ∀ w', BxsPost w 53 hs ts' G w' → Nodes w0 B C w' va vb ga gb gs hs ss ts' ∧ HoleKept B C w w' := by
  obtain ⟨F, G, a, b, c, d, e, f, g, i, j, k, l⟩ := h
  refine ⟨G, b, fun q hq => (l q hq).2, fun w' ⟨G', p, q, r⟩ => ⟨⟨F, G', a.kept q (fun u hu h => g u hu h), p, c.kept q (fun u hu => (f u hu).1), Nat.le_trans d q.size, e, ?_, ?_, own_keptF i q (fun u hu => (k u hu).2), own_keptF j q (fun u hu => (l u hu).2), ?_, ?_⟩, fun u h1 h2 => q.block u (by omega) (fun hG => (f u hG).2 ⟨h1, h2⟩)⟩⟩
  · intro u hu
    exact (r u hu).elim (f u) (fun hn => ⟨Nat.le_trans c.size hn, by omega⟩)
  · intro u hu hG
    exact (r u hG).elim (fun h => g u hu h) (fun hn => by have := a.lt u hu; omega)
  · intro u hu
    exact ⟨(k u hu).1, fun hG => (r u hG).elim (k u hu).2 (fun hn => by have := own_lt i hu; omega)⟩
  · intro u hu
    exact ⟨(l u hu).1, fun hG => (r u hG).elim (l u hu).2 (fun hn => by have := own_lt j hu; omega)⟩
end
theorem el26 : Elem Try.prog 26 41 1 8 (.pointer none) := Elem.mk' Try.underlying26 (by kernel_rfl) rfl (by omega)
theorem el27 : Elem Try.prog 27 43 1 8 (.pointer none) := Elem.mk' Try.underlying27 (by kernel_rfl) rfl (by omega)
theorem ptrs_one (gs : List Nat) : ∀ u ∈ ptrs gs, u.oneCell' = true := by
  intro u hu
  obtain ⟨g, _, rfl⟩ := List.mem_map.1 hu
  rfl
theorem ptrs_app (a b : List Nat) : ptrs (a ++ b) = ptrs a ++ ptrs b := by simp [ptrs]
def ssN (l : Nat → List Fi) (k : Nat) : List BSt := (List.range k).map fun i => BSt.new ((l i).take 4)
theorem ssN_succ (l : Nat → List Fi) (k : Nat) : ssN l (k + 1) = ssN l k ++ [BSt.new ((l k).take 4)] := by simp [ssN, List.range_succ]
theorem ssN_len (l : Nat → List Fi) (k : Nat) : (ssN l k).length = k := by simp [ssN]
set_option maxRecDepth 100000 in
set_option maxHeartbeats 4000000 in
theorem nodes_any {w : World} (cs : Array Value) (A : Nat → Option Addr) (n c : Nat → Nat) (l : Nat → List Fi) (hcs : ∀ i, i < 3 → cs[i]? = some (.slice (A i) (n i) (c i))) (h1 : ∀ i, i < 3 → n i ≤ c i) (h2 : ∀ i, i < 3 → c i ≤ maxLen) (hl : ∀ i, i < 3 → n i = (l i).length)
    (sh : ∀ i, i < 3 → Shows w 3 (A i) (n i) (fis (l i))) (ok : ∀ i, i < 3 → ∀ x ∈ l i, x.ok) :
    Calls Try.prog 9 #[.agg cs] w fun e w' => ∃ va vb gs hs, e = .returned (.tuple #[va, vb]) ∧ Nodes w 0 0 w' va vb gs hs gs hs (ssN l 3) (ssN l 3) := by
  have H := Lib.hid (And.intro hcs (And.intro h1 (And.intro h2 (And.intro hl (And.intro sh ok)))))
  clear hcs h1 h2 hl sh ok
  obtain ⟨w1, hw1⟩ : ∃ V, V = w.alloc (.cells cs 23) := ⟨_, rfl⟩
  have k1 : w1.heap[w.heap.size]? = some (.cells cs 23 (0, 0)) := by rw [hw1]; exact heap_alloc_new _ _
  have x1 : Ext w w1 := by rw [hw1]; exact (Ext.refl _).alloc _
  have N1 := Lib.hid ((Nodes.nil w).ext x1)
  have hs1 := blk_lt k1
  go_enter Try.func9, Try.ntmps9
  go_upto_region 1 with (fail)
  change Code.wp _ _ _ _ (w.alloc (.cells cs 23))
  rw [← hw1]
  clear hw1
  go_wp2
  go_loopg [11, 4, 5] 3 (fun gk i va vb wr => ∃ (k : Nat) (gs hs : List Nat), i = .int .i64 k ∧ k ≤ 3 ∧ gk = 3 - k ∧ Nodes w 0 0 wr va vb gs hs gs hs (ssN l k) (ssN l k) ∧ wr.heap[w.heap.size]? = some (.cells cs 23 (0, 0)) ∧ ∀ b, va.ownBlock = some b ∨ vb.ownBlock = some b → w.heap.size < b)
  case atStart => exact ⟨0, [], [], rfl, by omega, rfl, N1.out, k1, fun b e => e.elim (fun h => nomatch h) (fun h => nomatch h)⟩
  case round =>
    clear k1
    obtain ⟨k, gs, hs, rfl, hk, rfl, hN, kw, hab⟩ := hrel
    by_cases hlt : k < 3
    · have hk3 : (k : Int) < 3 := by omega
      have hk0 : (0 : Int) ≤ k := by omega
      obtain ⟨hcs, h1, h2, hl, sh, ok⟩ := H.out
      have e1 := hcs k hlt
      have e2 := h1 k hlt
      have e3 := h2 k hlt
      have e4 := hl k hlt
      have e5 := sh k hlt
      have e6 := ok k hlt
      have hss := ssN_succ l k
      have hsl := ssN_len l k
      have hla := hN.lenA
      have hlb := hN.lenB
      clear hcs h1 h2 hl sh ok
      generalize A k = A' at *
      generalize n k = n' at *
      generalize c k = c' at *
      generalize l k = l' at *
      obtain ⟨m, hm0⟩ : ∃ m, m = min n' 4 := ⟨_, rfl⟩
      have hmc : m ≤ c' := by omega
      have hmin : (if (4 : Int) < n' then (4 : Int) else n') = m := by rw [hm0]; split <;> omega
      have sm := e5.take (k := m) (by omega)
      rw [fis_take] at sm
      have hm4 : l'.take m = l'.take 4 := by
        by_cases h4 : n' ≤ 4
        · rw [List.take_of_length_le (by omega), List.take_of_length_le (by omega)]
        · rw [show m = 4 by omega]
      rw [hm4] at sm
      have HM := Lib.hid (show m = (l'.take 4).length by rw [List.length_take]; omega)
      have hm8 : ¬ 8 < m := by omega
      have HOK := Lib.hid (fun x hx => e6 x (List.mem_of_mem_take hx) : ∀ x ∈ l'.take 4, Fi.ok x)
      have SM := Lib.hid (sm.ext hN.x)
      have HSS := Lib.hid hss
      have HSL := Lib.hid (And.intro hsl (And.intro hla hlb))
      have HN := Lib.hid hN
      have HAB := Lib.hid hab
      have ck := cell_of_row wr w.heap.size k cs 23 (0, 0) kw
      rw [e1] at ck
      have hbw := blk_lt kw
      clear sm hm4 hm0 hss hsl e1 e4 e5 e6 hN hab hla hlb
      unfold maxLen at e3
      go_upto_region 6 with (fail)
      refine wp_region_held_drew (S := Ext wr) (by kernel_rfl) ((Ext.refl _).drew) (fun hHeld => ?_)
      obtain ⟨wDa, hwD⟩ : ∃ V, V = World.drew wr := ⟨_, rfl⟩
      rw [← hwD]
      clear hHeld
      have zz0 : Ext wr wDa := by rw [hwD]; exact (Ext.refl _).drew
      clear hwD
      refine wpAnyH_imp (S' := Ext wDa) (fun W h => Ext.trans zz0 h) _ _ _ _ ?_
      have hHeld := Ext.refl wDa
      refine wpAnyH_take (i := 0) (oi := { dst := some 15, op := Op.move (Operand.tmp 6), type := 3, pos := "law.go:40", after := #[], guard := none }) (v := ?vv2_6_0) rfl (by kernel_rfl) (by kernel_rfl) (by kernel_rfl) (fun _ _ _ h => h) (Or.inl ⟨by rfl, ?yy2_6_0⟩) hHeld ?_
      case yy2_6_0 => (intro W hx; go_simp; try with_reducible rfl)
      simp only [Act.put, List.setIfInBounds_toArray, List.set_cons_zero, List.set_cons_succ]
      refine wpAnyH_take (i := 1) (oi := { dst := some 16, op := Op.indexAddr 23 (Operand.tmp 1) (Operand.tmp 15), type := 0, pos := "law.go:40", after := #[{ on := 0, ground := Ground.data }], guard := none }) (v := ?vv3_6_1) rfl (by kernel_rfl) (by kernel_rfl) (by kernel_rfl) (fun _ _ _ h => h) (Or.inl ⟨by rfl, ?yy3_6_1⟩) hHeld ?_
      case yy3_6_1 => (intro W hx; go_simp; try with_reducible rfl)
      simp only [Act.put, List.setIfInBounds_toArray, List.set_cons_zero, List.set_cons_succ]
      refine wpAnyH_take (i := 2) (oi := { dst := some 17, op := Op.load 22 (Operand.tmp 16), type := 22, pos := "law.go:40", after := #[{ on := 1, ground := Ground.data }], guard := none }) (v := ?vv4_6_2) rfl (by kernel_rfl) (by kernel_rfl) (by kernel_rfl) (fun _ _ _ h => h) (Or.inl ⟨by rfl, ?yy4_6_2⟩) hHeld ?_
      case yy4_6_2 => (intro W hx; have hz := zz0.trans hx; have q9 := (Below.cell hz (p := ⟨w.heap.size, k, none⟩) hbw).trans ck; go_simp; try with_reducible rfl)
      simp only [Act.put, List.setIfInBounds_toArray, List.set_cons_zero, List.set_cons_succ]
      refine wpAnyH_take (i := 3) (oi := { dst := some 18, op := Op.move (Operand.tmp 6), type := 3, pos := "law.go:40", after := #[], guard := none }) (v := ?vv5_6_3) rfl (by kernel_rfl) (by kernel_rfl) (by kernel_rfl) (fun _ _ _ h => h) (Or.inl ⟨by rfl, ?yy5_6_3⟩) hHeld ?_
      case yy5_6_3 => (intro W hx; go_simp; try with_reducible rfl)
      simp only [Act.put, List.setIfInBounds_toArray, List.set_cons_zero, List.set_cons_succ]
      refine wpAnyH_take (i := 4) (oi := { dst := some 19, op := Op.indexAddr 23 (Operand.tmp 1) (Operand.tmp 18), type := 0, pos := "law.go:40", after := #[{ on := 3, ground := Ground.data }], guard := none }) (v := ?vv6_6_4) rfl (by kernel_rfl) (by kernel_rfl) (by kernel_rfl) (fun _ _ _ h => h) (Or.inl ⟨by rfl, ?yy6_6_4⟩) hHeld ?_
      case yy6_6_4 => (intro W hx; go_simp; try with_reducible rfl)
      simp only [Act.put, List.setIfInBounds_toArray, List.set_cons_zero, List.set_cons_succ]
      refine wpAnyH_take (i := 5) (oi := { dst := some 20, op := Op.load 22 (Operand.tmp 19), type := 22, pos := "law.go:40", after := #[{ on := 4, ground := Ground.data }], guard := none }) (v := ?vv7_6_5) rfl (by kernel_rfl) (by kernel_rfl) (by kernel_rfl) (fun _ _ _ h => h) (Or.inl ⟨by rfl, ?yy7_6_5⟩) hHeld ?_
      case yy7_6_5 => (intro W hx; have hz := zz0.trans hx; have q9 := (Below.cell hz (p := ⟨w.heap.size, k, none⟩) hbw).trans ck; go_simp; try with_reducible rfl)
      simp only [Act.put, List.setIfInBounds_toArray, List.set_cons_zero, List.set_cons_succ]
      refine wpAnyH_take (i := 6) (oi := { dst := some 21, op := Op.call { callee := Callee.builtin Builtin.len, args := #[Operand.tmp 20], argTypes := #[22] }, type := 3, pos := "law.go:40", after := #[{ on := 5, ground := Ground.data }], guard := none }) (v := ?vv8_6_6) rfl (by kernel_rfl) (by kernel_rfl) (by kernel_rfl) (fun _ _ _ h => h) (Or.inl ⟨by rfl, ?yy8_6_6⟩) hHeld ?_
      case yy8_6_6 => (intro W hx; go_simp; try with_reducible rfl)
      simp only [Act.put, List.setIfInBounds_toArray, List.set_cons_zero, List.set_cons_succ]
      refine wpAnyH_take (i := 7) (oi := { dst := some 22, op := Op.call { callee := Callee.builtin Builtin.min, args := #[Operand.tmp 21, Operand.const (Value.int IntKind.i64 4)], argTypes := #[3, 3] }, type := 3, pos := "law.go:40", after := #[{ on := 6, ground := Ground.data }], guard := none }) (v := ?vv9_6_7) rfl (by kernel_rfl) (by kernel_rfl) (by kernel_rfl) (fun _ _ _ h => h) (Or.inl ⟨by rfl, ?yy9_6_7⟩) hHeld ?_
      case yy9_6_7 => (intro W hx; go_simp; try with_reducible rfl)
      simp only [Act.put, List.setIfInBounds_toArray, List.set_cons_zero, List.set_cons_succ]
      refine wpAnyH_take (i := 8) (oi := { dst := some 23, op := Op.slice 22 (Operand.tmp 17) none (some (Operand.tmp 22)) none, type := 22, pos := "law.go:40", after := #[{ on := 2, ground := Ground.data }, { on := 7, ground := Ground.data }], guard := none }) (v := ?vv10_6_8) rfl (by kernel_rfl) (by kernel_rfl) (by kernel_rfl) (fun _ _ _ h => h) (Or.inl ⟨by rfl, ?yy10_6_8⟩) hHeld ?_
      case yy10_6_8 => (intro W hx; go_simp; try with_reducible rfl)
      simp only [Act.put, List.setIfInBounds_toArray, List.set_cons_zero, List.set_cons_succ]
      refine wpAnyH_ready (rs := [9]) (by kernel_rfl) (by simp) (AllReadyH.cons rfl (fun K hK => ?_) AllReadyH.nil)
      go_simp
      go_wp2_with (go_at_call 26; (refine (new_any _ _ _ (l'.take 4) _ ((SM.out.ext zz0).ext hHeld) HM.out hm8 HOK.out).mono ?_); rintro e wA ⟨g1, F1, rfl, b1, xA, n1⟩)
      refine hK.out _ _ xA (fun hHeld => ?_)
      clear hK K
      refine wpAnyH_imp (S' := Ext wA) (fun W h => Ext.trans xA h) _ _ _ _ ?_
      replace hHeld := Ext.refl wA
      have zz1 := zz0.trans xA
      refine wpAnyH_take (i := 10) (oi := { dst := some 14, op := Op.move (Operand.tmp 24), type := 66, pos := "law.go:40", after := #[{ on := 9, ground := Ground.data }], guard := none }) (v := ?vv11_6_10) rfl (by kernel_rfl) (by kernel_rfl) (by kernel_rfl) (fun _ _ _ h => h) (Or.inl ⟨by rfl, ?yy11_6_10⟩) hHeld ?_
      case yy11_6_10 => (intro W hx; go_simp; try with_reducible rfl)
      simp only [Act.put, List.setIfInBounds_toArray, List.set_cons_zero, List.set_cons_succ]
      refine wpAnyH_take (i := 11) (oi := { dst := some 25, op := Op.extract (Operand.tmp 14) 0, type := 41, pos := "law.go:40", after := #[{ on := 10, ground := Ground.data }], guard := none }) (v := ?vv12_6_11) rfl (by kernel_rfl) (by kernel_rfl) (by kernel_rfl) (fun _ _ _ h => h) (Or.inl ⟨by rfl, ?yy12_6_11⟩) hHeld ?_
      case yy12_6_11 => (intro W hx; go_simp; try with_reducible rfl)
      simp only [Act.put, List.setIfInBounds_toArray, List.set_cons_zero, List.set_cons_succ]
      refine wpAnyH_take (i := 12) (oi := { dst := some 26, op := Op.extract (Operand.tmp 14) 1, type := 40, pos := "law.go:40", after := #[{ on := 10, ground := Ground.data }, { on := 13, ground := Ground.gcOnly Departure.lateStores }], guard := none }) (v := ?vv13_6_12) rfl (by kernel_rfl) (by kernel_rfl) (by kernel_rfl) (fun _ _ _ h => h) (Or.inl ⟨by rfl, ?yy13_6_12⟩) hHeld ?_
      case yy13_6_12 => (intro W hx; go_simp; try with_reducible rfl)
      simp only [Act.put, List.setIfInBounds_toArray, List.set_cons_zero, List.set_cons_succ]
      refine wpAnyH_take (i := 13) (oi := { dst := some 7, op := Op.assign (Operand.tmp 25), type := 41, pos := "law.go:40", after := #[{ on := 11, ground := Ground.data }, { on := 9, ground := Ground.chain }, { on := 0, ground := Ground.phase }, { on := 1, ground := Ground.phase }, { on := 2, ground := Ground.phase }, { on := 3, ground := Ground.phase }, { on := 4, ground := Ground.phase }, { on := 5, ground := Ground.phase }, { on := 6, ground := Ground.phase }, { on := 7, ground := Ground.phase }, { on := 8, ground := Ground.phase }, { on := 9, ground := Ground.phase }, { on := 10, ground := Ground.phase }, { on := 11, ground := Ground.phase }, { on := 12, ground := Ground.textOnly Departure.lateStores }], guard := none }) (v := ?vv14_6_13) rfl (by kernel_rfl) (by kernel_rfl) (by kernel_rfl) (fun _ _ _ h => h) (Or.inl ⟨by rfl, ?yy14_6_13⟩) hHeld ?_
      case yy14_6_13 => (intro W hx; go_simp; try with_reducible rfl)
      simp only [Act.put, List.setIfInBounds_toArray, List.set_cons_zero, List.set_cons_succ]
      refine wpAnyH_take (i := 14) (oi := { dst := some 8, op := Op.assign (Operand.tmp 26), type := 40, pos := "law.go:40", after := #[{ on := 12, ground := Ground.data }, { on := 13, ground := Ground.chain }, { on := 0, ground := Ground.phase }, { on := 1, ground := Ground.phase }, { on := 2, ground := Ground.phase }, { on := 3, ground := Ground.phase }, { on := 4, ground := Ground.phase }, { on := 5, ground := Ground.phase }, { on := 6, ground := Ground.phase }, { on := 7, ground := Ground.phase }, { on := 8, ground := Ground.phase }, { on := 9, ground := Ground.phase }, { on := 10, ground := Ground.phase }, { on := 11, ground := Ground.phase }, { on := 12, ground := Ground.phase }, { on := 13, ground := Ground.phase }], guard := none }) (v := ?vv15_6_14) rfl (by kernel_rfl) (by kernel_rfl) (by kernel_rfl) (fun _ _ _ h => h) (Or.inl ⟨by rfl, ?yy15_6_14⟩) hHeld ?_
      case yy15_6_14 => (intro W hx; go_simp; try with_reducible rfl)
      simp only [Act.put, List.setIfInBounds_toArray, List.set_cons_zero, List.set_cons_succ]
      refine wpAnyH_done (by kernel_rfl) ?_ _
      have zend := zz1.trans hHeld
      have ckA := (Below.cell zend (p := ⟨w.heap.size, k, none⟩) hbw).trans ck
      have kwA := (zend.block _ hbw).trans kw
      have hbA := blk_lt kwA
      have SA := Lib.hid (SM.out.ext zend)
      have NA := Lib.hid (HN.out.ext zz0)
      have BA := Lib.hid (And.intro xA (And.intro b1 n1))
      clear zend zz0 xA b1 n1 ck hHeld
      go_upto_region 7 with (fail)
      refine wp_region_held_drew (S := Ext wA) (by kernel_rfl) ((Ext.refl _).drew) (fun hHeld => ?_)
      obtain ⟨wDb, hwD⟩ : ∃ V, V = World.drew wA := ⟨_, rfl⟩
      rw [← hwD]
      clear hHeld
      have zz0 : Ext wA wDb := by rw [hwD]; exact (Ext.refl _).drew
      clear hwD
      refine wpAnyH_imp (S' := Ext wDb) (fun W h => Ext.trans zz0 h) _ _ _ _ ?_
      have hHeld := Ext.refl wDb
      refine wpAnyH_take (i := 0) (oi := { dst := some 28, op := Op.move (Operand.tmp 6), type := 3, pos := "law.go:41", after := #[], guard := none }) (v := ?vv17_7_0) rfl (by kernel_rfl) (by kernel_rfl) (by kernel_rfl) (fun _ _ _ h => h) (Or.inl ⟨by rfl, ?yy17_7_0⟩) hHeld ?_
      case yy17_7_0 => (intro W hx; go_simp; try with_reducible rfl)
      simp only [Act.put, List.setIfInBounds_toArray, List.set_cons_zero, List.set_cons_succ]
      refine wpAnyH_take (i := 1) (oi := { dst := some 29, op := Op.indexAddr 23 (Operand.tmp 1) (Operand.tmp 28), type := 0, pos := "law.go:41", after := #[{ on := 0, ground := Ground.data }], guard := none }) (v := ?vv18_7_1) rfl (by kernel_rfl) (by kernel_rfl) (by kernel_rfl) (fun _ _ _ h => h) (Or.inl ⟨by rfl, ?yy18_7_1⟩) hHeld ?_
      case yy18_7_1 => (intro W hx; go_simp; try with_reducible rfl)
      simp only [Act.put, List.setIfInBounds_toArray, List.set_cons_zero, List.set_cons_succ]
      refine wpAnyH_take (i := 2) (oi := { dst := some 30, op := Op.load 22 (Operand.tmp 29), type := 22, pos := "law.go:41", after := #[{ on := 1, ground := Ground.data }], guard := none }) (v := ?vv19_7_2) rfl (by kernel_rfl) (by kernel_rfl) (by kernel_rfl) (fun _ _ _ h => h) (Or.inl ⟨by rfl, ?yy19_7_2⟩) hHeld ?_
      case yy19_7_2 => (intro W hx; have hz := zz0.trans hx; have q9 := (Below.cell hz (p := ⟨w.heap.size, k, none⟩) hbA).trans ckA; go_simp; try with_reducible rfl)
      simp only [Act.put, List.setIfInBounds_toArray, List.set_cons_zero, List.set_cons_succ]
      refine wpAnyH_take (i := 3) (oi := { dst := some 31, op := Op.move (Operand.tmp 6), type := 3, pos := "law.go:41", after := #[], guard := none }) (v := ?vv20_7_3) rfl (by kernel_rfl) (by kernel_rfl) (by kernel_rfl) (fun _ _ _ h => h) (Or.inl ⟨by rfl, ?yy20_7_3⟩) hHeld ?_
      case yy20_7_3 => (intro W hx; go_simp; try with_reducible rfl)
      simp only [Act.put, List.setIfInBounds_toArray, List.set_cons_zero, List.set_cons_succ]
      refine wpAnyH_take (i := 4) (oi := { dst := some 32, op := Op.indexAddr 23 (Operand.tmp 1) (Operand.tmp 31), type := 0, pos := "law.go:41", after := #[{ on := 3, ground := Ground.data }], guard := none }) (v := ?vv21_7_4) rfl (by kernel_rfl) (by kernel_rfl) (by kernel_rfl) (fun _ _ _ h => h) (Or.inl ⟨by rfl, ?yy21_7_4⟩) hHeld ?_
      case yy21_7_4 => (intro W hx; go_simp; try with_reducible rfl)
      simp only [Act.put, List.setIfInBounds_toArray, List.set_cons_zero, List.set_cons_succ]
      refine wpAnyH_take (i := 5) (oi := { dst := some 33, op := Op.load 22 (Operand.tmp 32), type := 22, pos := "law.go:41", after := #[{ on := 4, ground := Ground.data }], guard := none }) (v := ?vv22_7_5) rfl (by kernel_rfl) (by kernel_rfl) (by kernel_rfl) (fun _ _ _ h => h) (Or.inl ⟨by rfl, ?yy22_7_5⟩) hHeld ?_
      case yy22_7_5 => (intro W hx; have hz := zz0.trans hx; have q9 := (Below.cell hz (p := ⟨w.heap.size, k, none⟩) hbA).trans ckA; go_simp; try with_reducible rfl)
      simp only [Act.put, List.setIfInBounds_toArray, List.set_cons_zero, List.set_cons_succ]
      refine wpAnyH_take (i := 6) (oi := { dst := some 34, op := Op.call { callee := Callee.builtin Builtin.len, args := #[Operand.tmp 33], argTypes := #[22] }, type := 3, pos := "law.go:41", after := #[{ on := 5, ground := Ground.data }], guard := none }) (v := ?vv23_7_6) rfl (by kernel_rfl) (by kernel_rfl) (by kernel_rfl) (fun _ _ _ h => h) (Or.inl ⟨by rfl, ?yy23_7_6⟩) hHeld ?_
      case yy23_7_6 => (intro W hx; go_simp; try with_reducible rfl)
      simp only [Act.put, List.setIfInBounds_toArray, List.set_cons_zero, List.set_cons_succ]
      refine wpAnyH_take (i := 7) (oi := { dst := some 35, op := Op.call { callee := Callee.builtin Builtin.min, args := #[Operand.tmp 34, Operand.const (Value.int IntKind.i64 4)], argTypes := #[3, 3] }, type := 3, pos := "law.go:41", after := #[{ on := 6, ground := Ground.data }], guard := none }) (v := ?vv24_7_7) rfl (by kernel_rfl) (by kernel_rfl) (by kernel_rfl) (fun _ _ _ h => h) (Or.inl ⟨by rfl, ?yy24_7_7⟩) hHeld ?_
      case yy24_7_7 => (intro W hx; go_simp; try with_reducible rfl)
      simp only [Act.put, List.setIfInBounds_toArray, List.set_cons_zero, List.set_cons_succ]
      refine wpAnyH_take (i := 8) (oi := { dst := some 36, op := Op.slice 22 (Operand.tmp 30) none (some (Operand.tmp 35)) none, type := 22, pos := "law.go:41", after := #[{ on := 2, ground := Ground.data }, { on := 7, ground := Ground.data }], guard := none }) (v := ?vv25_7_8) rfl (by kernel_rfl) (by kernel_rfl) (by kernel_rfl) (fun _ _ _ h => h) (Or.inl ⟨by rfl, ?yy25_7_8⟩) hHeld ?_
      case yy25_7_8 => (intro W hx; go_simp; try with_reducible rfl)
      simp only [Act.put, List.setIfInBounds_toArray, List.set_cons_zero, List.set_cons_succ]
      refine wpAnyH_ready (rs := [9]) (by kernel_rfl) (by simp) (AllReadyH.cons rfl (fun K hK => ?_) AllReadyH.nil)
      go_simp
      go_wp2_with (go_at_call 27; (refine (rnew_any _ _ _ (l'.take 4) _ ((SA.out.ext zz0).ext hHeld) HM.out hm8 HOK.out).mono ?_); rintro e wB ⟨h1, G1, rfl, b2, xB, n2⟩)
      refine hK.out _ _ xB (fun hHeld => ?_)
      clear hK K
      refine wpAnyH_imp (S' := Ext wB) (fun W h => Ext.trans xB h) _ _ _ _ ?_
      replace hHeld := Ext.refl wB
      have zz1 := zz0.trans xB
      refine wpAnyH_take (i := 10) (oi := { dst := some 27, op := Op.move (Operand.tmp 37), type := 68, pos := "law.go:41", after := #[{ on := 9, ground := Ground.data }], guard := none }) (v := ?vv26_7_10) rfl (by kernel_rfl) (by kernel_rfl) (by kernel_rfl) (fun _ _ _ h => h) (Or.inl ⟨by rfl, ?yy26_7_10⟩) hHeld ?_
      case yy26_7_10 => (intro W hx; go_simp; try with_reducible rfl)
      simp only [Act.put, List.setIfInBounds_toArray, List.set_cons_zero, List.set_cons_succ]
      refine wpAnyH_take (i := 11) (oi := { dst := some 38, op := Op.extract (Operand.tmp 27) 0, type := 43, pos := "law.go:41", after := #[{ on := 10, ground := Ground.data }], guard := none }) (v := ?vv27_7_11) rfl (by kernel_rfl) (by kernel_rfl) (by kernel_rfl) (fun _ _ _ h => h) (Or.inl ⟨by rfl, ?yy27_7_11⟩) hHeld ?_
      case yy27_7_11 => (intro W hx; go_simp; try with_reducible rfl)
      simp only [Act.put, List.setIfInBounds_toArray, List.set_cons_zero, List.set_cons_succ]
      refine wpAnyH_take (i := 12) (oi := { dst := some 39, op := Op.extract (Operand.tmp 27) 1, type := 40, pos := "law.go:41", after := #[{ on := 10, ground := Ground.data }, { on := 13, ground := Ground.gcOnly Departure.lateStores }], guard := none }) (v := ?vv28_7_12) rfl (by kernel_rfl) (by kernel_rfl) (by kernel_rfl) (fun _ _ _ h => h) (Or.inl ⟨by rfl, ?yy28_7_12⟩) hHeld ?_
      case yy28_7_12 => (intro W hx; go_simp; try with_reducible rfl)
      simp only [Act.put, List.setIfInBounds_toArray, List.set_cons_zero, List.set_cons_succ]
      refine wpAnyH_take (i := 13) (oi := { dst := some 9, op := Op.assign (Operand.tmp 38), type := 43, pos := "law.go:41", after := #[{ on := 11, ground := Ground.data }, { on := 9, ground := Ground.chain }, { on := 0, ground := Ground.phase }, { on := 1, ground := Ground.phase }, { on := 2, ground := Ground.phase }, { on := 3, ground := Ground.phase }, { on := 4, ground := Ground.phase }, { on := 5, ground := Ground.phase }, { on := 6, ground := Ground.phase }, { on := 7, ground := Ground.phase }, { on := 8, ground := Ground.phase }, { on := 9, ground := Ground.phase }, { on := 10, ground := Ground.phase }, { on := 11, ground := Ground.phase }, { on := 12, ground := Ground.textOnly Departure.lateStores }], guard := none }) (v := ?vv29_7_13) rfl (by kernel_rfl) (by kernel_rfl) (by kernel_rfl) (fun _ _ _ h => h) (Or.inl ⟨by rfl, ?yy29_7_13⟩) hHeld ?_
      case yy29_7_13 => (intro W hx; go_simp; try with_reducible rfl)
      simp only [Act.put, List.setIfInBounds_toArray, List.set_cons_zero, List.set_cons_succ]
      refine wpAnyH_take (i := 14) (oi := { dst := some 10, op := Op.assign (Operand.tmp 39), type := 40, pos := "law.go:41", after := #[{ on := 12, ground := Ground.data }, { on := 13, ground := Ground.chain }, { on := 0, ground := Ground.phase }, { on := 1, ground := Ground.phase }, { on := 2, ground := Ground.phase }, { on := 3, ground := Ground.phase }, { on := 4, ground := Ground.phase }, { on := 5, ground := Ground.phase }, { on := 6, ground := Ground.phase }, { on := 7, ground := Ground.phase }, { on := 8, ground := Ground.phase }, { on := 9, ground := Ground.phase }, { on := 10, ground := Ground.phase }, { on := 11, ground := Ground.phase }, { on := 12, ground := Ground.phase }, { on := 13, ground := Ground.phase }], guard := none }) (v := ?vv30_7_14) rfl (by kernel_rfl) (by kernel_rfl) (by kernel_rfl) (fun _ _ _ h => h) (Or.inl ⟨by rfl, ?yy30_7_14⟩) hHeld ?_
      case yy30_7_14 => (intro W hx; go_simp; try with_reducible rfl)
      simp only [Act.put, List.setIfInBounds_toArray, List.set_cons_zero, List.set_cons_succ]
      refine wpAnyH_done (by kernel_rfl) ?_ _
      have zend := zz1.trans hHeld
      have kwB := (zend.block _ hbA).trans kwA
      obtain ⟨xA, b1, n1⟩ := BA.out
      have N2 := NA.out.news xA b1 n1 (zz0.trans xB) b2 (fun q hq => Nat.le_trans zz0.size (n2 q hq))
      obtain ⟨hsl, hla, hlb⟩ := HSL.out
      have hg3 : gs.length < 3 := by omega
      have hh3 : hs.length < 3 := by omega
      have xC : Ext wB (wB.alloc (.cells #[ptr g1] 41)) := (Ext.refl _).alloc _
      have N3 := Lib.hid (N2.ext xC)
      have kwC := (xC.block _ (blk_lt kwB)).trans kwB
      have SC := Lib.hid (Shows.new1 wB (ptr g1) 41)
      clear zend zz0 xA b1 n1 xB b2 n2 hHeld N2 BA NA SA hsl hla hlb
      go_upto_region 9 with (at_builtin; refine wpList_appB el26 rfl _ _ rfl N3.out.rowA rfl SC.out rfl (ptrs_one [g1]) (le_max (by omega)) (by omega) N3.out.x.size ?_; intro v8 w8 own8 gr8 at8)
      have N4 := N3.out.growA (ga' := gs ++ [g1]) (by rw [ptrs_app, List.length_append]; exact own8) gr8 at8
      have kw8 := (gr8.block _ (blk_lt kwC) (fun e => by have := HAB.out _ (.inl e.symm); omega)).trans kwC
      have hab8 : ∀ b, v8.ownBlock = some b → w.heap.size < b := fun b e => by
        rcases at8 with h | h
        · exact HAB.out _ (.inl (h ▸ e))
        · rw [e] at h; injection h with h; rw [h]; exact blk_lt kwC
      have xD : Ext w8 (w8.alloc (.cells #[ptr h1] 43)) := (Ext.refl _).alloc _
      have N5 := Lib.hid (N4.ext xD)
      have kwD := (xD.block _ (blk_lt kw8)).trans kw8
      have SD := Lib.hid (Shows.new1 w8 (ptr h1) 43)
      have HA8 := Lib.hid hab8
      clear own8 gr8 at8 N4 N3 kwC SC hab8
      go_upto_region 10 with (at_builtin; refine wpList_appB el27 rfl _ _ rfl N5.out.rowB rfl SD.out rfl (ptrs_one [h1]) (le_max (by omega)) (by omega) N5.out.x.size ?_; intro v9 w9 own9 gr9 at9)
      have N6 := Lib.hid (N5.out.growB (gb' := hs ++ [h1]) (by rw [ptrs_app, List.length_append]; exact own9) gr9 at9)
      have kw9 := Lib.hid ((gr9.block _ (blk_lt kwD) (fun e => by have := HAB.out _ (.inr e.symm); omega)).trans kwD)
      have hab9 : ∀ b, v9.ownBlock = some b → w.heap.size < b := fun b e => by
        rcases at9 with h | h
        · exact HAB.out _ (.inr (h ▸ e))
        · rw [e] at h; injection h with h; rw [h]; exact blk_lt kwD
      have HA9 := Lib.hid hab9
      clear own9 gr9 at9 hab9
      go_wp2
      go_roundg (3 - (k + 1))
      case measure => omega
      case rel => exact ⟨k + 1, gs ++ [g1], hs ++ [h1], by go_num, by omega, rfl, by rw [HSS.out]; exact N6.out, kw9.out, fun b e => e.elim (HA8.out b) (HA9.out b)⟩
    · obtain rfl : k = 3 := by omega
      have HN := Lib.hid hN
      clear hN
      go_wp2
      go_ret2
      exact ⟨_, _, _, _, rfl, HN.out⟩
end Go.Proofs.Ytjdabmadpclbaaa
