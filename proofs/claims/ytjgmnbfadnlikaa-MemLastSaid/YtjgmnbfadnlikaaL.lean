import Derived.Test.YtjgmnbfadnlikaaK
set_option linter.unusedVariables false
set_option linter.unusedSimpArgs false
namespace Go.Proofs.Ytjgmnbfadnlikaa
open Go.RowKit
section
variable {w : World} {g : Nat} {s : MS} {va : Tg → Value} {T : Nat → Option Tg}
theorem has_fn (h : MemC w g s va T) (seg : Int) : ∃ f : Int → Bool, (∀ p, (f p = true ↔ s.has seg p)) ∧ ∀ p, Calls Try.prog 34 #[.pointer (some ⟨g, 0, none⟩), .int .i64 seg, .int .i64 p] w fun e w' => e = .returned (.bool (f p)) ∧ w = w' :=
  ⟨fun p => Classical.choose (has_any h seg p), fun p => (Classical.choose_spec (has_any h seg p)).1, fun p => (Classical.choose_spec (has_any h seg p)).2⟩
set_option maxHeartbeats 1000000 in
theorem copy_no1 (h : MemC w g s va T) (seg a b : Int) (hn : ¬ s.has seg a) : Calls Try.prog 26 #[.pointer (some ⟨g, 0, none⟩), .int .i64 seg, .int .i64 a, .int .i64 b] w fun e w' => e = .returned (.int .i64 82) ∧ w = w' := by
  obtain ⟨f, hf, hc⟩ := has_fn h seg
  have fa : f a = false := by rcases e : f a with _ | _; rfl; exact absurd ((hf a).1 e) hn
  have HF := Lib.hid hc
  clear h hn hf hc
  go_enter Try.func26, Try.ntmps26
  go_upto_region 4 with (go_at_call 34; (refine (HF.out _).mono ?_); rintro e w1 ⟨rfl, rfl⟩)
  go_wp2
  go_ret
  exact ⟨rfl, rfl⟩
set_option maxHeartbeats 1000000 in
theorem copy_no2 (h : MemC w g s va T) (seg a b : Int) (hy : s.has seg a) (hn : ¬ s.has seg b) : Calls Try.prog 26 #[.pointer (some ⟨g, 0, none⟩), .int .i64 seg, .int .i64 a, .int .i64 b] w fun e w' => e = .returned (.int .i64 82) ∧ w = w' := by
  obtain ⟨f, hf, hc⟩ := has_fn h seg
  have fa : f a = true := (hf a).2 hy
  have fb : f b = false := by rcases e : f b with _ | _; rfl; exact absurd ((hf b).1 e) hn
  have HF := Lib.hid hc
  clear h hn hf hc hy
  go_enter Try.func26, Try.ntmps26
  go_upto_region 4 with (go_at_call 34; (refine (HF.out _).mono ?_); rintro e w1 ⟨rfl, rfl⟩)
  go_wp2
  go_ret
  exact ⟨rfl, rfl⟩
set_option maxHeartbeats 1000000 in
theorem copy_zero (h : MemC w g s va T) (seg a : Int) (hy : s.has seg a) : Calls Try.prog 26 #[.pointer (some ⟨g, 0, none⟩), .int .i64 seg, .int .i64 a, .int .i64 0] w fun e w' => e = .returned (.int .i64 81) ∧ w = w' := by
  obtain ⟨f, hf, hc⟩ := has_fn h seg
  have fa : f a = true := (hf a).2 hy
  have fb : f 0 = true := (hf 0).2 (by obtain ⟨i, k, q, rfl, rfl, hq, hk⟩ := has_nat hy; exact ⟨by omega, by omega, q, by simpa using hq, by omega⟩)
  have HF := Lib.hid hc
  clear h hf hc hy
  go_enter Try.func26, Try.ntmps26
  go_upto_region 6 with (go_at_call 34; (refine (HF.out _).mono ?_); rintro e w1 ⟨rfl, rfl⟩)
  go_wp2
  go_ret
  exact ⟨rfl, rfl⟩
set_option maxHeartbeats 2000000 in
theorem copy_yes (h : MemC w g s va T) {i a b : Nat} {q : Sg} (hq : s.segs[i]? = some q) (ha : a < q.pages.length) (hb : b < q.pages.length) (hb0 : b ≠ 0) : Calls Try.prog 26 #[.pointer (some ⟨g, 0, none⟩), .int .i64 (i : Int), .int .i64 (a : Int), .int .i64 (b : Int)] w fun e w' => e = .returned (.int .i64 0) ∧ MemC w' g (s.seg i (q.cp a b)) va T ∧ Kept (fun x => T x ≠ none) w w' := by
  obtain ⟨f, hf, hc⟩ := has_fn h i
  have fa : f a = true := (hf a).2 ⟨by omega, by omega, q, by simpa using hq, by omega⟩
  have fb : f b = true := (hf b).2 ⟨by omega, by omega, q, by simpa using hq, by omega⟩
  have HF := Lib.hid hc
  clear hf hc
  obtain ⟨rA, rc, sA, sc, hr, hs, K⟩ := h.row2
  obtain ⟨k0, k1⟩ := cells2 K
  have hil : i < s.segs.length := (List.getElem?_eq_some_iff.1 hq).1
  obtain ⟨sg, sc', P, pc, e, hP, _, m0, m1, m2, _, _⟩ := h.at_ hq
  rw [hs] at e
  injection e with e1 e2 e3
  subst e1 e3
  have hkq := h.ok.g q (List.mem_of_getElem? hq)
  obtain ⟨pa, hpa⟩ : ∃ p, q.pages[a]? = some p := ⟨_, List.getElem?_eq_getElem ha⟩
  obtain ⟨pb, hpb⟩ : ∃ p, q.pages[b]? = some p := ⟨_, List.getElem?_eq_getElem hb⟩
  obtain ⟨Aa, ca, hva, _, _⟩ := own_form (h.by_ hq hpa)
  obtain ⟨Ab, cb, hvb, _, _⟩ := own_form (h.by_ hq hpb)
  obtain ⟨Pg, pc', ua, hPv, _, _, hua, hca⟩ := own_at (h.pg hq) ha
  obtain ⟨Pg', _, ub, hPv', _, _, hub, hcb⟩ := own_at (h.pg hq) hb
  rw [pgRow_get va _ _ ha] at hua
  rw [pgRow_get va _ _ hb] at hub
  injection hua with hua; injection hub with hub
  subst hua hub
  rw [hPv] at hPv' hP
  injection hPv' with e; injection e with e; injection e with e; subst e
  injection hP with e1 e2 e3; subst e1 e3
  rw [hva] at hca
  rw [hvb] at hcb
  have la := hkq.pl _ (List.mem_of_getElem? hpa)
  have lb := hkq.pl _ (List.mem_of_getElem? hpb)
  have ownb := h.by_ hq hpb
  have showa : Shows w 1 Aa pa.length (u8s pa) := by have := h.by_ hq hpa; rw [hva] at this; exact Shows.of_own this
  have h1 : (i : Int) < s.segs.length := by omega
  have h2 : (a : Int) < q.pages.length := by omega
  have h3 : (b : Int) < q.pages.length := by omega
  have h4 : ((b : Int) == 0) = false := by simp; omega
  have HH := Lib.hid h
  have HE := Lib.hid (show va (4, i, b) = .slice Ab pb.length cb ∧ q.pages[a]? = some pa ∧ s.segs[i]? = some q ∧ b < q.pages.length ∧ pb.length = pa.length from ⟨hvb, hpa, hq, hb, by omega⟩)
  have HPB := Lib.hid hpb
  have HL := Lib.hid (show pb.length = q.len ∧ pa.length = q.len from ⟨lb, la⟩)
  rw [lb] at hcb ownb
  rw [la] at hca showa
  have HS := Lib.hid (show s.segs.length = s.segs.length from rfl)
  generalize hsn : s.segs.length = sn at *
  generalize hpn : q.pages.length = pn at *
  generalize hln : q.len = ln at *
  clear hq hr hs h hpa hpb hva hvb hkq hil ha hb hsn hpn hPv
  go_enter Try.func26, Try.ntmps26
  go_upto_region 5 with (go_at_call 34; (refine (HF.out _).mono ?_); rintro e w1 ⟨rfl, rfl⟩)
  go_upto_region 8 with (fail)
  clear k0 k1 m0 m1 m2
  have hdp : 0 < ln → ∀ g' c', va (4, i, b) = .slice (some ⟨g', 0, none⟩) ln c' → Ab = some ⟨g', 0, none⟩ := by
    intro _ g' c' e
    rw [HE.out.1] at e
    injection e
  have htag := Lib.hid (fun k e => HH.out.O.tag (4, i, b) ⟨5, 1, pb.length, u8s pb⟩ (by simp [mspec, HE.out.2.2.1, HPB.out]) k e)
  refine wp_regionL (Kept (fun x => T x ≠ none) w) (Ext w) 8 (by kernel_rfl) (Kept.of_ext (Ext.refl _).drew) ((Ext.refl _).drew) (fun hL => ?_)
  have hP := hL.1
  have hE : Ext w (World.drew w) := (Ext.refl _).drew
  obtain ⟨wD1, hwD⟩ : ∃ V, V = World.drew w := ⟨_, rfl⟩
  rw [← hwD] at hL hP hE ⊢
  clear hwD
  refine wpAnyL_takeP (i := 0) (oi := { dst := some 37, op := Op.move (Operand.tmp 9), type := 23, pos := "mem.go:162", after := #[], guard := none }) (v := ?vv2_8_0) rfl (by kernel_rfl) (by kernel_rfl) (by kernel_rfl) (by kernel_rfl) (fun _ _ _ h => h) (Or.inl ⟨by rfl, ?yy2_8_0⟩) hL (fun hL => ?_)
  case yy2_8_0 => (intro W hx; go_simp; try with_reducible rfl)
  simp only [Act.put, List.setIfInBounds_toArray, List.set_cons_zero, List.set_cons_succ]
  refine wpAnyL_takeP (i := 1) (oi := { dst := some 38, op := Op.move (Operand.tmp 3), type := 3, pos := "mem.go:162", after := #[], guard := none }) (v := ?vv3_8_1) rfl (by kernel_rfl) (by kernel_rfl) (by kernel_rfl) (by kernel_rfl) (fun _ _ _ h => h) (Or.inl ⟨by rfl, ?yy3_8_1⟩) hL (fun hL => ?_)
  case yy3_8_1 => (intro W hx; go_simp; try with_reducible rfl)
  simp only [Act.put, List.setIfInBounds_toArray, List.set_cons_zero, List.set_cons_succ]
  refine wpAnyL_takeP (i := 2) (oi := { dst := some 39, op := Op.indexAddr 23 (Operand.tmp 37) (Operand.tmp 38), type := 0, pos := "mem.go:162", after := #[{ on := 0, ground := Ground.data }, { on := 1, ground := Ground.data }], guard := none }) (v := ?vv4_8_2) rfl (by kernel_rfl) (by kernel_rfl) (by kernel_rfl) (by kernel_rfl) (fun _ _ _ h => h) (Or.inl ⟨by rfl, ?yy4_8_2⟩) hL (fun hL => ?_)
  case yy4_8_2 => (intro W hx; go_simp; try with_reducible rfl)
  simp only [Act.put, List.setIfInBounds_toArray, List.set_cons_zero, List.set_cons_succ]
  refine wpAnyL_takeB (i := 3) [8] (oi := { dst := some 40, op := Op.load 37 (Operand.tmp 39), type := 37, pos := "mem.go:162", after := #[{ on := 2, ground := Ground.data }], guard := none }) (v := ?vv5_8_3) rfl (by kernel_rfl) (by kernel_rfl) (by kernel_rfl) (by kernel_rfl) (fun _ _ _ h => h) (by kernel_rfl) (Or.inl ⟨by rfl, ?yy5_8_3⟩) hL (fun hL => ?_)
  case yy5_8_3 => (intro W hx; have q1 := cell_ext hx.2 hcb; go_simp; try with_reducible rfl)
  simp only [Act.put, List.setIfInBounds_toArray, List.set_cons_zero, List.set_cons_succ]
  refine wpAnyL_takeP (i := 4) (oi := { dst := some 41, op := Op.move (Operand.tmp 9), type := 23, pos := "mem.go:162", after := #[], guard := none }) (v := ?vv6_8_4) rfl (by kernel_rfl) (by kernel_rfl) (by kernel_rfl) (by kernel_rfl) (fun _ _ _ h => h) (Or.inl ⟨by rfl, ?yy6_8_4⟩) hL (fun hL => ?_)
  case yy6_8_4 => (intro W hx; go_simp; try with_reducible rfl)
  simp only [Act.put, List.setIfInBounds_toArray, List.set_cons_zero, List.set_cons_succ]
  refine wpAnyL_takeP (i := 5) (oi := { dst := some 42, op := Op.move (Operand.tmp 2), type := 3, pos := "mem.go:162", after := #[], guard := none }) (v := ?vv7_8_5) rfl (by kernel_rfl) (by kernel_rfl) (by kernel_rfl) (by kernel_rfl) (fun _ _ _ h => h) (Or.inl ⟨by rfl, ?yy7_8_5⟩) hL (fun hL => ?_)
  case yy7_8_5 => (intro W hx; go_simp; try with_reducible rfl)
  simp only [Act.put, List.setIfInBounds_toArray, List.set_cons_zero, List.set_cons_succ]
  refine wpAnyL_takeP (i := 6) (oi := { dst := some 43, op := Op.indexAddr 23 (Operand.tmp 41) (Operand.tmp 42), type := 0, pos := "mem.go:162", after := #[{ on := 4, ground := Ground.data }, { on := 5, ground := Ground.data }], guard := none }) (v := ?vv8_8_6) rfl (by kernel_rfl) (by kernel_rfl) (by kernel_rfl) (by kernel_rfl) (fun _ _ _ h => h) (Or.inl ⟨by rfl, ?yy8_8_6⟩) hL (fun hL => ?_)
  case yy8_8_6 => (intro W hx; go_simp; try with_reducible rfl)
  simp only [Act.put, List.setIfInBounds_toArray, List.set_cons_zero, List.set_cons_succ]
  refine wpAnyL_takeB (i := 7) [8] (oi := { dst := some 44, op := Op.load 37 (Operand.tmp 43), type := 37, pos := "mem.go:162", after := #[{ on := 6, ground := Ground.data }], guard := none }) (v := ?vv9_8_7) rfl (by kernel_rfl) (by kernel_rfl) (by kernel_rfl) (by kernel_rfl) (fun _ _ _ h => h) (by kernel_rfl) (Or.inl ⟨by rfl, ?yy9_8_7⟩) hL (fun hL => ?_)
  case yy9_8_7 => (intro W hx; have q2 := cell_ext hx.2 hca; go_simp; try with_reducible rfl)
  simp only [Act.put, List.setIfInBounds_toArray, List.set_cons_zero, List.set_cons_succ]
  refine wpAnyL_ready (rs := [8]) (by kernel_rfl) (by simp) (AllReadyL.cons rfl (fun K hK => ?_) AllReadyL.nil)
  rw [if_pos (by rfl)]
  have xE : Ext w wD1 := hE; refine wp_copyO (o := { dst := some 45, op := Op.call { callee := Callee.builtin Builtin.copy, args := #[Operand.tmp 40, Operand.tmp 44], argTypes := #[37, 37] }, type := 3, pos := "mem.go:162", after := #[{ on := 3, ground := Ground.data }, { on := 7, ground := Ground.data }], guard := none }) _ _ _ _ rfl 5 Try.underlying37 size5 rfl rfl (off := 0) (Nat.min_self _).symm (own_ext ownb hE) (by omega) hdp (showa.ext hE) (u8s_one _) ?_; intro w3 own3 x3
  simp only [Act.put, List.setIfInBounds_toArray, List.set_cons_zero, List.set_cons_succ]
  replace hP := hP.trans' (Kept.of_grown x3 (fun k e => by rw [htag.out k e]; simp))
  clear hE
  clear hL
  refine hK.out _ _ ⟨hP, fun e => absurd e (by simp)⟩ (fun hL => ?_)
  clear hK K
  refine wpAnyL_done (by kernel_rfl) ?_ _
  go_wp2
  go_ret
  have el : pb.length = pa.length := HE.out.2.2.2.2
  have e1 : splice (u8s pb) 0 ((u8s pa).take ln) = u8s pa := by rw [List.take_of_length_le (by simp [u8s, HL.out.2])]; simp [splice, u8s, el]
  rw [e1, ← HL.out.2] at own3
  have hr := cp_mem (HH.out.ext xE) HE.out.2.2.1 HE.out.2.1 (List.getElem?_eq_some_iff.1 HPB.out).1 own3 x3
  exact ⟨rfl, hr.1, (Kept.of_ext xE).trans' hr.2⟩
end
end Go.Proofs.Ytjgmnbfadnlikaa
