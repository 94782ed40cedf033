import Derived.Test.YtjgmnbfadnlikaaRE
set_option linter.unusedVariables false
set_option linter.unusedSimpArgs false
namespace Go.Proofs.Ytjgmnbfadnlikaa
open Go.RowKit
theorem own_free {w : World} {base : Nat} {e : TypeId} {n g c : Nat} {xs : List Value} (h : w.ownsRow base e 1 (.slice (some ⟨g, 0, none⟩) n c) n xs) {i : Nat} (hi : i < n) : w.frozen? ⟨g, i, none⟩ = false := by
  obtain ⟨g', c', e, _, _, hf, _⟩ := own_set h (i := i) (by omega) (.int .i64 0)
  injection e with e1 e2 e3
  injection e1 with e1
  injection e1 with e1
  subst e1
  exact hf
theorem pgRow_set {va : Tg → Value} {i n b : Nat} {v : Value} (hb : b < n) : pgRow (fun t => if t = (4, i, b) then v else va t) i n = (pgRow va i n).set b v := by
  apply List.ext_getElem?
  intro j
  rw [List.getElem?_set]
  by_cases hj : j < n
  · rw [pgRow_get _ _ _ hj]
    by_cases e : b = j
    · subst e
      have hl : b < (pgRow va i n).length := by unfold pgRow; simpa using hb
      simp [hl]
    · rw [if_neg e, pgRow_get _ _ _ hj, if_neg (fun h => e (by injection h with _ h; injection h with _ h; exact h.symm))]
  · have h1 : ∀ vb, (pgRow vb i n)[j]? = none := fun vb => List.getElem?_eq_none (by simp [pgRow]; omega)
    rw [h1, h1, if_neg (by omega)]
/-- a page's value changed: only its own segment's row speaks of it. -/
theorem rspec_va {s : MS} {va : Tg → Value} {v : Value} {i b : Nat} (t : Tg) (h3 : t ≠ (3, i, 0)) : rspec s (fun t => if t = (4, i, b) then v else va t) t = rspec s va t := by
  obtain ⟨x, y, z⟩ := t
  match x with
  | 0 => simp [rspec]
  | 1 => rfl
  | 2 =>
    simp only [rspec]
    rw [sgRow_congr (vb := va) (fun k hk => by simp)]
  | 3 =>
    simp only [rspec, mspec]
    by_cases e : z = 0
    · subst e
      rw [if_pos rfl, if_pos rfl]
      have hy : y ≠ i := fun e => h3 (by rw [e])
      cases hq : s.segs[y]? with
      | none => rfl
      | some q =>
        simp only [Option.map_some]
        rw [pgRow_congr (vb := va) (fun k hk => by simp [hy])]
    · rw [if_neg e, if_neg e]
  | 4 => rfl
  | 5 => rfl
  | n + 6 => rfl
section
variable {w : World} {g : Nat} {s : MS} {va : Tg → Value} {T : Nat → Option Tg}
/-- a page has a copy of another one's bytes, in a block of its own. -/
theorem rcp_mem {w1 : World} (h : MemR w g s va T) {i a b P : Nat} {q : Sg} {p : List Int} {v : Value} {n c : Nat} (hq : s.segs[i]? = some q) (ha : q.pages[a]? = some p) (hb : b < q.pages.length) (hP : va (3, i, 0) = .slice (some ⟨P, 0, none⟩) n c) (x : Ext w w1) (hv : w1.ownsRow w.heap.size 5 1 v p.length (u8s p)) :
    ∃ va' T', MemR (w1.setCell ⟨P, b, none⟩ v) g (s.seg i (q.cp a b)) va' T' ∧ Kept (fun b => T b ≠ none) w (w1.setCell ⟨P, b, none⟩ v) ∧ (∀ b t, T' b = some t → T b ≠ none ∨ w.heap.size ≤ b) := by
  have hk := h.ok.g q (List.mem_of_getElem? hq)
  have hp : q.pages.getD a [] = p := by rw [List.getD_eq_getElem?_getD, ha]; rfl
  have hp1 : 1 ≤ p.length := by rw [hk.pl _ (List.mem_of_getElem? ha)]; exact hk.l1
  obtain ⟨B, cc, rfl, _, _⟩ := hv.form (by omega)
  have hBlt := hv.lt B rfl
  have hrow : rspec s va (3, i, 0) = some ⟨37, 1, q.pages.length, pgRow va i q.pages.length⟩ := by simp [rspec, mspec, hq]
  have O1 := Own.lay h.O x (t0 := (4, i, b)) (p1 := ⟨5, 1, p.length, u8s p⟩) (B := B) (sp' := fun t => if t = (4, i, b) then some ⟨5, 1, p.length, u8s p⟩ else rspec s va t) hv rfl (fun t ht p hp => by simpa [ht] using hp) (fun p hp => by simp at hp; exact hp.symm)
  obtain ⟨g', c', e, O2, _, _, hT⟩ := Own.cell O1 (t0 := (3, i, 0)) (p0 := ⟨37, 1, q.pages.length, pgRow va i q.pages.length⟩) (by simp [hrow]) (i := b) (by simpa using hb) (.slice (some ⟨B, 0, none⟩) p.length cc) (sp' := rspec (s.seg i (q.cp a b)) (fun t => if t = (4, i, b) then .slice (some ⟨B, 0, none⟩) p.length cc else va t)) (by
    intro t ht y hy
    rw [rspec_va t ht] at hy
    by_cases e : t = (4, i, b)
    · rw [if_pos e]
      subst e
      rw [rspec_m _ _ (.inr (.inr rfl)), seg_on hq (q' := q.cp a b) (k := b) (p := p) (by simp only [Sg.cp, hp]; simp [hb])] at hy
      exact hy
    · rw [if_neg e, ← hy]
      refine (rseg_off (q' := q.cp a b) hq (by simp [Sg.cp]) rfl rfl t (fun k e2 => ?_)).symm
      have hne : b ≠ k := fun e3 => e (by rw [e2, e3])
      simp [Sg.cp, List.getElem?_set, hne]) (by
    intro y hy
    have hl : (q.cp a b).pages.length = q.pages.length := by simp [Sg.cp]
    have hyy : rspec (s.seg i (q.cp a b)) (fun t => if t = (4, i, b) then .slice (some ⟨B, 0, none⟩) p.length cc else va t) (3, i, 0) = some ⟨37, 1, q.pages.length, (pgRow va i q.pages.length).set b (.slice (some ⟨B, 0, none⟩) p.length cc)⟩ := by
      rw [rspec_m _ _ (.inr (.inl rfl))]
      simp only [mspec, if_true, seg_get hq, Option.map_some, hl, pgRow_set hb]
    rw [hyy] at hy
    injection hy with hy
    exact hy.symm)
  have e' : va (3, i, 0) = .slice (some ⟨g', 0, none⟩) q.pages.length c' := by simpa using e
  rw [hP] at e'
  injection e' with e1 e2 e3
  injection e1 with e1
  injection e1 with e1
  subst e1
  have hTP : T P = some (3, i, 0) := h.O.tag (3, i, 0) _ hrow P (by rw [hP]; rfl)
  refine ⟨_, _, ⟨O2, by simp; exact h.g0, seg_ok h.ok (cp_ok hk (List.getElem?_eq_some_iff.1 ha).1 b)⟩, (Kept.of_ext x).trans' (Kept.of_set _ (by rw [hTP]; simp)), fun b' t hbt => ?_⟩
  rcases tag_cases hbt with ⟨rfl, _⟩ | hbt
  · exact .inr hBlt.1
  · exact .inl (by rw [hbt]; simp)
set_option maxHeartbeats 1000000 in
theorem r_copy_no1 (h : MemR w g s va T) (seg a b : Int) (hn : ¬ s.has seg a) : Calls Try.prog 17 #[.pointer (some ⟨g, 0, none⟩), .int .i64 seg, .int .i64 a, .int .i64 b] w fun e w' => e = .returned (.int .i64 82) ∧ w = w' := by
  obtain ⟨f, hf, hF⟩ := r_has_fn h seg
  have HF := Lib.hid hF
  have h1 : f a = false := by rw [Bool.eq_false_iff]; exact fun e => hn ((hf a).1 e)
  clear h hn hf hF
  go_enter Try.func17, Try.ntmps17
  go_upto_region 99 with (go_at_call 30; (refine (HF.out _).mono ?_); rintro e w1 ⟨rfl, rfl⟩)
  go_ret
  exact ⟨rfl, rfl⟩
set_option maxHeartbeats 1000000 in
theorem r_copy_no2 (h : MemR w g s va T) (seg a b : Int) (hy : s.has seg a) (hn : ¬ s.has seg b) : Calls Try.prog 17 #[.pointer (some ⟨g, 0, none⟩), .int .i64 seg, .int .i64 a, .int .i64 b] w fun e w' => e = .returned (.int .i64 82) ∧ w = w' := by
  obtain ⟨f, hf, hF⟩ := r_has_fn h seg
  have HF := Lib.hid hF
  have h1 : f a = true := (hf a).2 hy
  have h2 : f b = false := by rw [Bool.eq_false_iff]; exact fun e => hn ((hf b).1 e)
  clear h hn hy hf hF
  go_enter Try.func17, Try.ntmps17
  go_upto_region 99 with (go_at_call 30; (refine (HF.out _).mono ?_); rintro e w1 ⟨rfl, rfl⟩)
  go_ret
  exact ⟨rfl, rfl⟩
set_option maxHeartbeats 1000000 in
theorem r_copy_zero (h : MemR w g s va T) (seg a : Int) (hy : s.has seg a) (h0 : s.has seg 0) : Calls Try.prog 17 #[.pointer (some ⟨g, 0, none⟩), .int .i64 seg, .int .i64 a, .int .i64 0] w fun e w' => e = .returned (.int .i64 81) ∧ w = w' := by
  obtain ⟨f, hf, hF⟩ := r_has_fn h seg
  have HF := Lib.hid hF
  have h1 : f a = true := (hf a).2 hy
  have h2 : f 0 = true := (hf 0).2 h0
  clear h hy h0 hf hF
  go_enter Try.func17, Try.ntmps17
  go_upto_region 99 with (go_at_call 30; (refine (HF.out _).mono ?_); rintro e w1 ⟨rfl, rfl⟩)
  go_ret
  exact ⟨rfl, rfl⟩
theorem size37 : (Try.prog.info? 37).map (·.size) = some 1 := by kernel_rfl
set_option maxRecDepth 100000 in
set_option maxHeartbeats 4000000 in
theorem r_copy_yes (h : MemR w g s va T) {i a b : Nat} {q : Sg} (hq : s.segs[i]? = some q) (ha : a < q.pages.length) (hb : b < q.pages.length) (hb0 : b ≠ 0) : Calls Try.prog 17 #[.pointer (some ⟨g, 0, none⟩), .int .i64 (i : Int), .int .i64 (a : Int), .int .i64 (b : Int)] w fun e w' => e = .returned (.int .i64 0) ∧
    ∃ va' T', MemR w' g (s.seg i (q.cp a b)) va' T' ∧ Kept (fun b => T b ≠ none) w w' ∧ (∀ b t, T' b = some t → T b ≠ none ∨ w.heap.size ≤ b) := by
  obtain ⟨f, hf, hF⟩ := r_has_fn h (i : Int)
  have HF := Lib.hid hF
  have f1 : f (a : Int) = true := (hf _).2 ⟨by omega, by omega, q, by simpa using hq, by omega⟩
  have f2 : f (b : Int) = true := (hf _).2 ⟨by omega, by omega, q, by simpa using hq, by omega⟩
  have hbz : ((b : Int) == 0) = false := by simp; omega
  have hbz2 : ¬ ((b : Int) = 0) := by omega
  obtain ⟨rA, rc, sA, sc, eA, ec, hr, hs, he, _, _, _, K⟩ := h.row3
  obtain ⟨k0, k1, k2⟩ := cells3 K
  have hil : i < s.segs.length := (List.getElem?_eq_some_iff.1 hq).1
  obtain ⟨sg, eg, rfl, rfl, m0, m1, m2, _, _⟩ := h.at_ hq hs he
  obtain ⟨P, pc, u, hpv, hpc, _, hu, hca⟩ := own_at (h.pg hq) ha
  rw [pgRow_get va _ _ ha] at hu
  injection hu with hu
  subst hu
  obtain ⟨P2, pc2, _, hpv2, hfz, hcb, _, _⟩ : ∃ P2 pc2, ∃ _ : True, va (3, i, 0) = .slice (some ⟨P2, 0, none⟩) q.pages.length pc2 ∧ w.frozen? ⟨P2, b, none⟩ = false ∧ w.cell? ⟨P2, b, none⟩ = some (va (4, i, b)) ∧ True ∧ True := by
    obtain ⟨g1, c1, e, _, _, hf, hc, _⟩ := own_set (h.pg hq) (i := b) (by omega) (.int .i64 0)
    rw [pgRow_get va _ _ hb] at hc
    exact ⟨g1, c1, trivial, e, hf, hc, trivial, trivial⟩
  rw [hpv] at hpv2
  injection hpv2 with a1 a2 a3
  injection a1 with a1
  injection a1 with a1
  subst a1 a3
  obtain ⟨pa, hpa⟩ : ∃ p, q.pages[a]? = some p := ⟨_, List.getElem?_eq_getElem ha⟩
  have hoa := h.by_ hq hpa
  obtain ⟨A, c, hva, hc1, hc2⟩ := own_form hoa
  rw [hva] at hca hoa
  rw [hpv] at m0
  have hpg := h.pg hq
  have HTP := Lib.hid (show T P ≠ none by rw [h.O.tag (3, i, 0) ⟨37, 1, q.pages.length, pgRow va i q.pages.length⟩ (by simp [rspec, mspec, hq]) P (by rw [hpv]; rfl)]; simp)
  rw [hpv] at hpg
  have HPG := Lib.hid hpg
  have HB := Lib.hid hb
  have hkq := h.ok.g q (List.mem_of_getElem? hq)
  have hpl := hkq.pl _ (List.mem_of_getElem? hpa)
  have hl2 := hkq.l2
  obtain ⟨ln, hln⟩ : ∃ ln, ln = pa.length := ⟨_, rfl⟩
  have sha : Shows w 1 A ln (u8s pa) := by rw [hln]; exact Shows.of_own hoa
  rw [← hln] at hca
  have hln2 : ln ≤ 256 := by omega
  have HRES := Lib.hid (fun w1 v (x : Ext w w1) hv => rcp_mem (w1 := w1) (v := v) h hq hpa hb hpv x hv)
  have HLN := Lib.hid hln
  have h1 : (i : Int) < s.segs.length := by omega
  have h2 : (a : Int) < q.pages.length := by omega
  have h3 : (b : Int) < q.pages.length := by omega
  generalize s.segs.length = sn at *
  generalize q.pages.length = pn at *
  clear hq hr hs he h K k0 k2 m1 m2 hf hF hkq hpl hl2 hln hpa hoa hva hc1 hc2 hpv a2 hpg hfz
  go_enter Try.func17, Try.ntmps17
  go_upto_region 5 with (go_at_call 30; (refine (HF.out _).mono ?_); rintro e w1 ⟨rfl, rfl⟩)
  refine wp_regionL (Kept (fun x => T x ≠ none) w) (Ext w) 21 (by kernel_rfl) (Kept.of_ext (Ext.refl _).drew) ((Ext.refl _).drew) (fun hL => ?_)
  have hP := hL.1
  have hE : Ext w (World.drew w) := (Ext.refl _).drew
  obtain ⟨wD1, hwD⟩ : ∃ V, V = World.drew w := ⟨_, rfl⟩
  rw [← hwD] at hL hP hE ⊢
  clear hwD
  refine wpAnyL_takeP (i := 0) (oi := { dst := some 23, op := Op.move (Operand.tmp 0), type := 32, pos := "ref.go:135", after := #[], guard := none }) (v := ?vv2_5_0) rfl (by kernel_rfl) (by kernel_rfl) (by kernel_rfl) (by kernel_rfl) (fun _ _ _ h => h) (Or.inl ⟨by rfl, ?yy2_5_0⟩) hL (fun hL => ?_)
  case yy2_5_0 => (intro W hx; go_simp; try with_reducible rfl)
  simp only [Act.put, List.setIfInBounds_toArray, List.set_cons_zero, List.set_cons_succ]
  refine wpAnyL_takeP (i := 1) (oi := { dst := some 24, op := Op.nilCheck (Operand.tmp 23), type := 0, pos := "ref.go:135", after := #[{ on := 0, ground := Ground.data }], guard := none }) (v := ?vv3_5_1) rfl (by kernel_rfl) (by kernel_rfl) (by kernel_rfl) (by kernel_rfl) (fun _ _ _ h => h) (Or.inl ⟨by rfl, ?yy3_5_1⟩) hL (fun hL => ?_)
  case yy3_5_1 => (intro W hx; go_simp; try with_reducible rfl)
  simp only [Act.put, List.setIfInBounds_toArray, List.set_cons_zero, List.set_cons_succ]
  refine wpAnyL_takeP (i := 2) (oi := { dst := some 25, op := Op.fieldAddr 68 (Operand.tmp 24) 1, type := 0, pos := "ref.go:135", after := #[{ on := 1, ground := Ground.data }], guard := none }) (v := ?vv4_5_2) rfl (by kernel_rfl) (by kernel_rfl) (by kernel_rfl) (by kernel_rfl) (fun _ _ _ h => h) (Or.inl ⟨by rfl, ?yy4_5_2⟩) hL (fun hL => ?_)
  case yy4_5_2 => (intro W hx; go_simp; try with_reducible rfl)
  simp only [Act.put, List.setIfInBounds_toArray, List.set_cons_zero, List.set_cons_succ]
  refine wpAnyL_takeB (i := 3) [5, 6, 20, 21] (oi := { dst := some 26, op := Op.load 65 (Operand.tmp 25), type := 65, pos := "ref.go:135", after := #[{ on := 2, ground := Ground.data }], guard := none }) (v := ?vv5_5_3) rfl (by kernel_rfl) (by kernel_rfl) (by kernel_rfl) (by kernel_rfl) (fun _ _ _ h => h) (by kernel_rfl) (Or.inl ⟨by rfl, ?yy5_5_3⟩) hL (fun hL => ?_)
  case yy5_5_3 => (intro W hx; have q1 := cell_ext hx.2 k1; go_simp; try with_reducible rfl)
  simp only [Act.put, List.setIfInBounds_toArray, List.set_cons_zero, List.set_cons_succ]
  refine wpAnyL_takeP (i := 4) (oi := { dst := some 27, op := Op.move (Operand.tmp 1), type := 3, pos := "ref.go:135", after := #[], guard := none }) (v := ?vv6_5_4) rfl (by kernel_rfl) (by kernel_rfl) (by kernel_rfl) (by kernel_rfl) (fun _ _ _ h => h) (Or.inl ⟨by rfl, ?yy6_5_4⟩) hL (fun hL => ?_)
  case yy6_5_4 => (intro W hx; go_simp; try with_reducible rfl)
  simp only [Act.put, List.setIfInBounds_toArray, List.set_cons_zero, List.set_cons_succ]
  refine wpAnyL_takeP (i := 5) (oi := { dst := some 28, op := Op.indexAddr 65 (Operand.tmp 26) (Operand.tmp 27), type := 0, pos := "ref.go:135", after := #[{ on := 3, ground := Ground.data }, { on := 4, ground := Ground.data }], guard := none }) (v := ?vv7_5_5) rfl (by kernel_rfl) (by kernel_rfl) (by kernel_rfl) (by kernel_rfl) (fun _ _ _ h => h) (Or.inl ⟨by rfl, ?yy7_5_5⟩) hL (fun hL => ?_)
  case yy7_5_5 => (intro W hx; go_simp; try with_reducible rfl)
  simp only [Act.put, List.setIfInBounds_toArray, List.set_cons_zero, List.set_cons_succ]
  refine wpAnyL_takeB (i := 6) [20, 21] (oi := { dst := some 29, op := Op.load 23 (Operand.tmp 28), type := 23, pos := "ref.go:135", after := #[{ on := 5, ground := Ground.data }], guard := none }) (v := ?vv8_5_6) rfl (by kernel_rfl) (by kernel_rfl) (by kernel_rfl) (by kernel_rfl) (fun _ _ _ h => h) (by kernel_rfl) (Or.inl ⟨by rfl, ?yy8_5_6⟩) hL (fun hL => ?_)
  case yy8_5_6 => (intro W hx; have q1 := cell_ext hx.2 m0; go_simp; try with_reducible rfl)
  simp only [Act.put, List.setIfInBounds_toArray, List.set_cons_zero, List.set_cons_succ]
  refine wpAnyL_takeP (i := 7) (oi := { dst := some 30, op := Op.move (Operand.tmp 3), type := 3, pos := "ref.go:135", after := #[], guard := none }) (v := ?vv9_5_7) rfl (by kernel_rfl) (by kernel_rfl) (by kernel_rfl) (by kernel_rfl) (fun _ _ _ h => h) (Or.inl ⟨by rfl, ?yy9_5_7⟩) hL (fun hL => ?_)
  case yy9_5_7 => (intro W hx; go_simp; try with_reducible rfl)
  simp only [Act.put, List.setIfInBounds_toArray, List.set_cons_zero, List.set_cons_succ]
  refine wpAnyL_takeP (i := 9) (oi := { dst := some 32, op := Op.move (Operand.tmp 0), type := 32, pos := "ref.go:135", after := #[], guard := none }) (v := ?vv10_5_9) rfl (by kernel_rfl) (by kernel_rfl) (by kernel_rfl) (by kernel_rfl) (fun _ _ _ h => h) (Or.inl ⟨by rfl, ?yy10_5_9⟩) hL (fun hL => ?_)
  case yy10_5_9 => (intro W hx; go_simp; try with_reducible rfl)
  simp only [Act.put, List.setIfInBounds_toArray, List.set_cons_zero, List.set_cons_succ]
  refine wpAnyL_takeP (i := 10) (oi := { dst := some 33, op := Op.nilCheck (Operand.tmp 32), type := 0, pos := "ref.go:135", after := #[{ on := 9, ground := Ground.data }], guard := none }) (v := ?vv11_5_10) rfl (by kernel_rfl) (by kernel_rfl) (by kernel_rfl) (by kernel_rfl) (fun _ _ _ h => h) (Or.inl ⟨by rfl, ?yy11_5_10⟩) hL (fun hL => ?_)
  case yy11_5_10 => (intro W hx; go_simp; try with_reducible rfl)
  simp only [Act.put, List.setIfInBounds_toArray, List.set_cons_zero, List.set_cons_succ]
  refine wpAnyL_takeP (i := 11) (oi := { dst := some 34, op := Op.fieldAddr 68 (Operand.tmp 33) 1, type := 0, pos := "ref.go:135", after := #[{ on := 10, ground := Ground.data }], guard := none }) (v := ?vv12_5_11) rfl (by kernel_rfl) (by kernel_rfl) (by kernel_rfl) (by kernel_rfl) (fun _ _ _ h => h) (Or.inl ⟨by rfl, ?yy12_5_11⟩) hL (fun hL => ?_)
  case yy12_5_11 => (intro W hx; go_simp; try with_reducible rfl)
  simp only [Act.put, List.setIfInBounds_toArray, List.set_cons_zero, List.set_cons_succ]
  refine wpAnyL_takeB (i := 12) [14, 15, 17, 18, 19, 21] (oi := { dst := some 35, op := Op.load 65 (Operand.tmp 34), type := 65, pos := "ref.go:135", after := #[{ on := 11, ground := Ground.data }], guard := none }) (v := ?vv13_5_12) rfl (by kernel_rfl) (by kernel_rfl) (by kernel_rfl) (by kernel_rfl) (fun _ _ _ h => h) (by kernel_rfl) (Or.inl ⟨by rfl, ?yy13_5_12⟩) hL (fun hL => ?_)
  case yy13_5_12 => (intro W hx; have q1 := cell_ext hx.2 k1; go_simp; try with_reducible rfl)
  simp only [Act.put, List.setIfInBounds_toArray, List.set_cons_zero, List.set_cons_succ]
  refine wpAnyL_takeP (i := 13) (oi := { dst := some 36, op := Op.move (Operand.tmp 1), type := 3, pos := "ref.go:135", after := #[], guard := none }) (v := ?vv14_5_13) rfl (by kernel_rfl) (by kernel_rfl) (by kernel_rfl) (by kernel_rfl) (fun _ _ _ h => h) (Or.inl ⟨by rfl, ?yy14_5_13⟩) hL (fun hL => ?_)
  case yy14_5_13 => (intro W hx; go_simp; try with_reducible rfl)
  simp only [Act.put, List.setIfInBounds_toArray, List.set_cons_zero, List.set_cons_succ]
  refine wpAnyL_takeP (i := 14) (oi := { dst := some 37, op := Op.indexAddr 65 (Operand.tmp 35) (Operand.tmp 36), type := 0, pos := "ref.go:135", after := #[{ on := 12, ground := Ground.data }, { on := 13, ground := Ground.data }], guard := none }) (v := ?vv15_5_14) rfl (by kernel_rfl) (by kernel_rfl) (by kernel_rfl) (by kernel_rfl) (fun _ _ _ h => h) (Or.inl ⟨by rfl, ?yy15_5_14⟩) hL (fun hL => ?_)
  case yy15_5_14 => (intro W hx; go_simp; try with_reducible rfl)
  simp only [Act.put, List.setIfInBounds_toArray, List.set_cons_zero, List.set_cons_succ]
  refine wpAnyL_takeB (i := 15) [17, 18, 19, 21] (oi := { dst := some 38, op := Op.load 23 (Operand.tmp 37), type := 23, pos := "ref.go:135", after := #[{ on := 14, ground := Ground.data }], guard := none }) (v := ?vv16_5_15) rfl (by kernel_rfl) (by kernel_rfl) (by kernel_rfl) (by kernel_rfl) (fun _ _ _ h => h) (by kernel_rfl) (Or.inl ⟨by rfl, ?yy16_5_15⟩) hL (fun hL => ?_)
  case yy16_5_15 => (intro W hx; have q1 := cell_ext hx.2 m0; go_simp; try with_reducible rfl)
  simp only [Act.put, List.setIfInBounds_toArray, List.set_cons_zero, List.set_cons_succ]
  refine wpAnyL_takeP (i := 16) (oi := { dst := some 39, op := Op.move (Operand.tmp 2), type := 3, pos := "ref.go:135", after := #[], guard := none }) (v := ?vv17_5_16) rfl (by kernel_rfl) (by kernel_rfl) (by kernel_rfl) (by kernel_rfl) (fun _ _ _ h => h) (Or.inl ⟨by rfl, ?yy17_5_16⟩) hL (fun hL => ?_)
  case yy17_5_16 => (intro W hx; go_simp; try with_reducible rfl)
  simp only [Act.put, List.setIfInBounds_toArray, List.set_cons_zero, List.set_cons_succ]
  refine wpAnyL_takeP (i := 17) (oi := { dst := some 40, op := Op.indexAddr 23 (Operand.tmp 38) (Operand.tmp 39), type := 0, pos := "ref.go:135", after := #[{ on := 15, ground := Ground.data }, { on := 16, ground := Ground.data }], guard := none }) (v := ?vv18_5_17) rfl (by kernel_rfl) (by kernel_rfl) (by kernel_rfl) (by kernel_rfl) (fun _ _ _ h => h) (Or.inl ⟨by rfl, ?yy18_5_17⟩) hL (fun hL => ?_)
  case yy18_5_17 => (intro W hx; go_simp; try with_reducible rfl)
  simp only [Act.put, List.setIfInBounds_toArray, List.set_cons_zero, List.set_cons_succ]
  refine wpAnyL_takeB (i := 18) [19, 21] (oi := { dst := some 41, op := Op.load 37 (Operand.tmp 40), type := 37, pos := "ref.go:135", after := #[{ on := 17, ground := Ground.data }], guard := none }) (v := ?vv19_5_18) rfl (by kernel_rfl) (by kernel_rfl) (by kernel_rfl) (by kernel_rfl) (fun _ _ _ h => h) (by kernel_rfl) (Or.inl ⟨by rfl, ?yy19_5_18⟩) hL (fun hL => ?_)
  case yy19_5_18 => (intro W hx; have q1 := cell_ext hx.2 hca; go_simp; try with_reducible rfl)
  simp only [Act.put, List.setIfInBounds_toArray, List.set_cons_zero, List.set_cons_succ]
  refine wpAnyL_ready (rs := [8]) (by kernel_rfl) (by simp) (AllReadyL.cons rfl (fun K hK => ?_) AllReadyL.nil)
  go_simp
  obtain ⟨w2, hw⟩ : ∃ V, V = World.alloc wD1 (.cells #[] 5) := ⟨_, rfl⟩
  rw [← hw]
  have xb : Ext wD1 w2 := by rw [hw]; exact (Ext.refl _).alloc _
  have kb : (World.heap w2)[(World.heap wD1).size]? = some (.cells #[] 5) := by rw [hw]; exact heap_alloc_new _ _
  have own1 : World.ownsRow w2 w.heap.size 5 1 (.slice (some ⟨(World.heap wD1).size, 0, none⟩) 0 0) 0 [] := (by rw [hw]; exact World.ownsRow_made wD1 #[] 0 hE.size (by simp) rfl)
  clear hw
  replace hE := hE.trans xb
  replace hP := hP.then xb
  clear hL
  refine hK.out _ _ ⟨hP, fun e => hE⟩ (fun hL => ?_)
  clear hK K
  refine wpAnyL_ready (rs := [19]) (by kernel_rfl) (by simp) (AllReadyL.cons rfl (fun K hK => ?_) AllReadyL.nil)
  rw [if_pos (by rfl)]
  refine wp_appB (o := { dst := some 42, op := Op.call { callee := Callee.builtin Builtin.append, args := #[Operand.tmp 31, Operand.tmp 41], argTypes := #[37, 37] }, type := 37, pos := "ref.go:135", after := #[{ on := 8, ground := Ground.data }, { on := 18, ground := Ground.data }], guard := none }) el37 _ _ rfl own1 rfl (sha.ext hE) rfl (u8s_one _) (le_max (by omega)) (by omega) hE.size ?_; intro v4 w4 own4 x4 at4; simp only [List.nil_append, Nat.zero_add] at own4; obtain ⟨A4, c4, rfl, _, _⟩ := own_form own4
  simp only [Act.put, List.setIfInBounds_toArray, List.set_cons_zero, List.set_cons_succ]
  replace hE := Ext.of_grown hE x4 (fun k e => (own1.lt k e).1)
  replace hP := Kept.of_ext (F := (fun x => T x ≠ none)) hE
  clear hL
  refine hK.out _ _ ⟨hP, fun e => hE⟩ (fun hL => ?_)
  clear hK K
  refine wpAnyL_takeP (i := 20) (oi := { dst := some 43, op := Op.indexAddr 23 (Operand.tmp 29) (Operand.tmp 30), type := 0, pos := "ref.go:135", after := #[{ on := 6, ground := Ground.data }, { on := 7, ground := Ground.data }, { on := 0, ground := Ground.phase }, { on := 1, ground := Ground.phase }, { on := 2, ground := Ground.phase }, { on := 3, ground := Ground.phase }, { on := 4, ground := Ground.phase }, { on := 5, ground := Ground.phase }, { on := 6, ground := Ground.phase }, { on := 7, ground := Ground.phase }, { on := 8, ground := Ground.phase }, { on := 9, ground := Ground.phase }, { on := 10, ground := Ground.phase }, { on := 11, ground := Ground.phase }, { on := 12, ground := Ground.phase }, { on := 13, ground := Ground.phase }, { on := 14, ground := Ground.phase }, { on := 15, ground := Ground.phase }, { on := 16, ground := Ground.phase }, { on := 17, ground := Ground.phase }, { on := 18, ground := Ground.phase }, { on := 19, ground := Ground.phase }], guard := none }) (v := ?vv20_5_20) rfl (by kernel_rfl) (by kernel_rfl) (by kernel_rfl) (by kernel_rfl) (fun _ _ _ h => h) (Or.inl ⟨by rfl, ?yy20_5_20⟩) hL (fun hL => ?_)
  case yy20_5_20 => (intro W hx; go_simp; try with_reducible rfl)
  simp only [Act.put, List.setIfInBounds_toArray, List.set_cons_zero, List.set_cons_succ]
  refine wpAnyL_ready (rs := [21]) (by kernel_rfl) (by simp) (AllReadyL.cons rfl (fun K hK => ?_) AllReadyL.nil)
  rw [if_pos (by rfl)]
  have xE : Ext w w4 := hE; refine wp_stset (o := { dst := none, op := Op.store 37 (Operand.tmp 43) (Operand.tmp 42), type := 0, pos := "ref.go:135", after := #[{ on := 20, ground := Ground.data }, { on := 19, ground := Ground.data }, { on := 19, ground := Ground.chain }, { on := 0, ground := Ground.phase }, { on := 1, ground := Ground.phase }, { on := 2, ground := Ground.phase }, { on := 3, ground := Ground.phase }, { on := 4, ground := Ground.phase }, { on := 5, ground := Ground.phase }, { on := 6, ground := Ground.phase }, { on := 7, ground := Ground.phase }, { on := 8, ground := Ground.phase }, { on := 9, ground := Ground.phase }, { on := 10, ground := Ground.phase }, { on := 11, ground := Ground.phase }, { on := 12, ground := Ground.phase }, { on := 13, ground := Ground.phase }, { on := 14, ground := Ground.phase }, { on := 15, ground := Ground.phase }, { on := 16, ground := Ground.phase }, { on := 17, ground := Ground.phase }, { on := 18, ground := Ground.phase }, { on := 19, ground := Ground.phase }], guard := none }) (v := .slice A4 ln c4) 37 _ _ rfl (cell_ext hE hcb) (own_free (own_ext HPG.out hE) HB.out) rfl rfl size37 rfl (fun c e => by cases e) ?_; obtain ⟨w6, hw6, x6⟩ : ∃ V, V = World.setCell w4 ⟨P, b, none⟩ (.slice A4 ln c4) ∧ w4.grownBy V (some P) := ⟨_, rfl, set_grown _ _ _ _⟩; rw [← hw6]
  simp only [Act.put]
  replace hP := hP.trans' (Kept.of_grown x6 (fun k e => by injection e with e; subst e; exact HTP.out))
  clear hE
  clear hL
  refine hK.out _ _ ⟨hP, fun e => absurd e (by simp)⟩ (fun hL => ?_)
  clear hK K
  refine wpAnyL_done (by kernel_rfl) ?_ _
  go_wp2
  go_ret
  obtain ⟨va', T', h1, h2, h3⟩ := HRES.out _ _ xE (by rw [← HLN.out]; exact own4)
  rw [← hw6] at h1 h2
  exact ⟨rfl, va', T', h1, h2, h3⟩
theorem r_copy_any (h : MemR w g s va T) (seg a b : Int) : Calls Try.prog 17 #[.pointer (some ⟨g, 0, none⟩), .int .i64 seg, .int .i64 a, .int .i64 b] w fun e w' => e = .returned (.int .i64 (s.cp seg a b).2) ∧ ∃ va' T', MemR w' g (s.cp seg a b).1 va' T' ∧ Kept (fun b => T b ≠ none) w w' ∧ (∀ b t, T' b = some t → T b ≠ none ∨ w.heap.size ≤ b) := by
  have no : ∀ r, (s.cp seg a b = (s, r)) → (Calls Try.prog 17 #[.pointer (some ⟨g, 0, none⟩), .int .i64 seg, .int .i64 a, .int .i64 b] w fun e w' => e = .returned (.int .i64 r) ∧ w = w') → Calls Try.prog 17 #[.pointer (some ⟨g, 0, none⟩), .int .i64 seg, .int .i64 a, .int .i64 b] w fun e w' => e = .returned (.int .i64 (s.cp seg a b).2) ∧ ∃ va' T', MemR w' g (s.cp seg a b).1 va' T' ∧ Kept (fun b => T b ≠ none) w w' ∧ (∀ b t, T' b = some t → T b ≠ none ∨ w.heap.size ≤ b) := by
    intro r e hc
    rw [e]
    refine hc.mono ?_
    rintro e w' ⟨rfl, rfl⟩
    exact ⟨rfl, va, T, h, Kept.refl _ _, fun b t hb => .inl (by rw [hb]; simp)⟩
  by_cases ha : s.has seg a
  · by_cases hb : s.has seg b
    · obtain ⟨i, k, q, rfl, rfl, hq, hk⟩ := has_nat ha
      obtain ⟨i', k', q', e1, rfl, hq', hk'⟩ := has_nat hb
      obtain rfl : i = i' := by omega
      rw [hq] at hq'; injection hq' with hq'; subst hq'
      by_cases h0 : k' = 0
      · subst h0
        exact no 81 (cp_seg0 hq hk) (r_copy_zero h i k ha hb)
      · rw [cp_seg hq hk hk' h0]
        exact r_copy_yes h hq hk hk' h0
    · refine no 82 ?_ (r_copy_no2 h seg a b ha hb)
      unfold MS.cp
      rcases hq : s.segs[seg.toNat]? with _ | q
      · rfl
      · simp only
        rw [if_neg (fun h => hb ⟨h.1, h.2.2.2.1, q, hq, h.2.2.2.2⟩)]
  · refine no 82 ?_ (r_copy_no1 h seg a b ha)
    unfold MS.cp
    rcases hq : s.segs[seg.toNat]? with _ | q
    · rfl
    · simp only
      rw [if_neg (fun h => ha ⟨h.1, h.2.1, q, hq, h.2.2.1⟩)]
end
end Go.Proofs.Ytjgmnbfadnlikaa
