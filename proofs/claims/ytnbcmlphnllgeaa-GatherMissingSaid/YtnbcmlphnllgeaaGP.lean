import Derived.Test.YtnbcmlphnllgeaaGO
set_option linter.unusedVariables false
set_option linter.unusedSimpArgs false
namespace Go.Proofs.Ytnbcmlphnllgeaa
open Go.RowKit
/-- a packet of one list of n tables that is next. -/
theorem take_next {n k : Nat} {ca : List (List Int)} (hk : k < n) (hn : n ≤ 9) (hc : ca.length = k) (bs : List Int) :
    takeG [⟨n, false, false, ca⟩] 4 (k : Int) bs = if k + 1 < n then (none, [⟨n, false, false, ca ++ [bs]⟩]) else (some (0, false, ca ++ [bs]), [⟨n, false, false, []⟩]) := by
  have ht : tabG (k : Int) = k := by unfold tabG; rw [if_neg (by omega)]; omega
  have ho : overG (k : Int) = false := by unfold overG; simp; omega
  unfold takeG
  rw [if_neg (by simp), ht, ho]
  have hf : findG [⟨n, false, false, ca⟩] k = some (0, k, true) := by unfold findG; rw [if_pos (by show k < n; exact hk)]; rfl
  rw [hf]
  have hs : stepG ⟨n, false, false, ca⟩ k false bs = (false, ca ++ [bs]) := by
    unfold stepG
    by_cases h0 : k = 0
    · rw [if_pos h0]
      have : ca = [] := List.eq_nil_of_length_eq_zero (by omega)
      rw [this]; rfl
    · rw [if_neg h0, if_pos ⟨hc.symm, rfl⟩]
  simp only [List.getD_cons_zero, hs, List.length_append, hc, List.length_cons, List.length_nil, List.set_cons_zero]
/-- what is handed in at table k in a turn. -/
def ownT (t : Nat) (bl : List Bv) (k : Nat) : List Int := (t : Int) :: (if k < bl.length then ((bl.getD k ⟨none, 0, 0, []⟩).bs.take (min (bl.getD k ⟨none, 0, 0, []⟩).n 6)) else [])
def ownsT (t : Nat) (bl : List Bv) (k : Nat) : List (List Int) := (List.range k).map (ownT t bl)
theorem owns_len (t : Nat) (bl : List Bv) (k : Nat) : (ownsT t bl k).length = k := by simp [ownsT]
theorem owns_succ (t : Nat) (bl : List Bv) (k : Nat) : ownsT t bl (k + 1) = ownsT t bl k ++ [ownT t bl k] := by simp [ownsT, List.range_succ]
theorem ownsT_ne {t : Nat} {bl : List Bv} {k : Nat} : ∀ x ∈ ownsT t bl k, x ≠ [] := by
  intro x hx
  obtain ⟨j, _, rfl⟩ := List.mem_map.1 hx
  simp [ownT]
/-- the first byte of those in block gb is now u. -/
def wrB (gb : Nat) (u : Int) (y : Value × List Int) : Value × List Int := if y.1.ownBlock = some gb then (y.1, u :: y.2.tail) else y
theorem wrB_fst (gb : Nat) (u : Int) (y : Value × List Int) : (wrB gb u y).1 = y.1 := by unfold wrB; split <;> rfl
theorem wrB_ne {gb : Nat} {u : Int} {y : Value × List Int} (h : y.2 ≠ []) : (wrB gb u y).2 ≠ [] := by unfold wrB; split <;> simp [h]
theorem BL.wr {w : World} {F : Nat → Prop} {v : Value} {els : List (Value × List Int)} (h : BL w F v els) (hne : ∀ y ∈ els, y.2 ≠ []) {j : Nat} {x : Value × List Int} (hj : els[j]? = some x) {u : Int} (hu : 0 ≤ u ∧ u < 256) :
    ∃ gb c c0, x.1 = .slice (some ⟨gb, 0, none⟩) x.2.length c ∧ 0 < x.2.length ∧ x.2.length ≤ c ∧ F gb ∧ w.cell? ⟨gb, 0, none⟩ = some (.int .u8 c0) ∧ w.frozen? ⟨gb, 0, none⟩ = false ∧ gb < w.heap.size ∧
      BL (w.setCell ⟨gb, 0, none⟩ (.int .u8 u)) F v (els.map (wrB gb u)) := by
  have hx := List.mem_of_getElem? hj
  have hxp : 0 < x.2.length := List.length_pos_iff.2 (hne x hx)
  obtain ⟨gb, c, e, own1, _, f1, k1, l1⟩ := own_set (h.el x hx).1 (i := 0) (by omega) (.int .u8 u)
  obtain ⟨A, c', e', h5, _, _⟩ := own_form (h.el x hx).1
  have hF : F gb ∧ v.ownBlock ≠ some gb := h.eF x hx gb (by rw [e]; rfl)
  have kp : Kept (fun b => b = gb) w (w.setCell ⟨gb, 0, none⟩ (.int .u8 u)) := Kept.of_set _ rfl
  obtain ⟨c0, hc0⟩ : ∃ c0, (u8s x.2)[0]? = some (.int .u8 c0) := by
    rcases hxx : x.2 with _ | ⟨a, l⟩
    · rw [hxx] at hxp; simp at hxp
    · exact ⟨a, rfl⟩
  refine ⟨gb, c, c0, e, hxp, ?_, hF.1, by rw [k1, hc0], f1, l1, ?_, fun b hb => h.rF b hb, fun y hy => ?_, fun y hy b hb => ?_⟩
  · rw [e] at e'; injection e' with _ _ e3; omega
  · have hm : (els.map (wrB gb u)).map (·.1) = els.map (·.1) := by rw [List.map_map]; exact List.map_congr_left (fun y _ => wrB_fst gb u y)
    rw [List.length_map, hm]
    exact own_keptF h.row kp (fun b e1 e2 => hF.2 (by rw [e1, e2]))
  · obtain ⟨z, hz, rfl⟩ := List.mem_map.1 hy
    by_cases hb : z.1.ownBlock = some gb
    · have hw : wrB gb u z = (z.1, u :: z.2.tail) := by unfold wrB; rw [if_pos hb]
      rw [hw]
      have hzp : 0 < z.2.length := List.length_pos_iff.2 (hne z hz)
      obtain ⟨g2, c2, e2, own2, _, _, _, _⟩ := own_set (h.el z hz).1 (i := 0) (by omega) (.int .u8 u)
      rw [e2] at hb
      simp only [Value.ownBlock, Option.some.injEq] at hb
      subst hb
      have h1 : (u :: z.2.tail).length = z.2.length := by simp; omega
      have h2 : u8s (u :: z.2.tail) = (u8s z.2).set 0 (.int .u8 u) := by
        rcases hzz : z.2 with _ | ⟨a, l⟩
        · rw [hzz] at hzp; simp at hzp
        · rfl
      refine ⟨by show World.ownsRow _ 0 5 1 z.1 (u :: z.2.tail).length (u8s (u :: z.2.tail)); rw [h1, h2]; exact own2, ?_⟩
      intro b hb
      rcases List.mem_cons.1 hb with rfl | hb
      · exact hu
      · exact (h.el z hz).2 b (List.mem_of_mem_tail hb)
    · have hw : wrB gb u z = z := by unfold wrB; rw [if_neg hb]
      rw [hw]
      exact ⟨own_keptF (h.el z hz).1 kp (fun b e1 e2 => hb (by rw [e1, e2])), (h.el z hz).2⟩
  · obtain ⟨z, hz, rfl⟩ := List.mem_map.1 hy
    rw [wrB_fst] at hb
    exact h.eF z hz b hb
/-- the first sample, in its variable. -/
def FS (d : Bool) (w : World) (fb n : Nat) (S : Nat → Prop) : Prop := ∃ fv els, w.heap[fb]? = some (.cells #[.int .i64 0, .bool false, fv] 35 (0, 0)) ∧ BL w S fv els ∧ (d = true → els.length = n ∧ ∀ y, els[0]? = some y → ∃ l, y.2 = 99 :: l)
theorem FS.kept {d : Bool} {w w' : World} {fb n : Nat} {S G : Nat → Prop} (h : FS d w fb n S) (k : Kept G w w') (hf : ¬ G fb) (hS : ∀ b, S b → ¬ G b) : FS d w' fb n S := by
  obtain ⟨fv, els, h1, h2, h3⟩ := h
  exact ⟨fv, els, k.blk h1 hf, h2.kept k hS, h3⟩
/-- the code's Gather (its blocks F's) and the first sample (its bytes S's) side by side, all behind wo. -/
structure GS (wo w : World) (g fb n : Nat) (F S : Nat → Prop) (d : Bool) (ca : List (List Int)) : Prop where
  ga : Gf F w w g [⟨n, false, false, ca⟩]
  fs : FS d w fb n S
  nf : ¬ F fb
  ns : ¬ S fb
  sf : ∀ b, S b → ¬ F b ∧ b < w.heap.size ∧ wo.heap.size ≤ b
  fw : ∀ b, F b → wo.heap.size ≤ b
  fl : wo.heap.size ≤ fb
  ex : Ext wo w
section
variable {wo w w1 : World} {g fb n : Nat} {F S : Nat → Prop} {d : Bool} {ca : List (List Int)}
theorem GS.fbl (h : GS wo w g fb n F S d ca) : fb < w.heap.size := by
  obtain ⟨_, _, h1, _⟩ := h.fs
  exact blk_lt h1
theorem GS.ext (h : GS wo w g fb n F S d ca) (x : Ext w w1) : GS wo w1 g fb n F S d ca :=
  ⟨(h.ga.ext x).re, h.fs.kept (G := fun _ => False) (.of_ext x) (fun h => h) (fun _ _ h => h), h.nf, h.ns, fun b hb => ⟨(h.sf b hb).1, Nat.lt_of_lt_of_le (h.sf b hb).2.1 x.size, (h.sf b hb).2.2⟩, h.fw, h.fl, h.ex.trans x⟩
/-- what was laid, or written, since is not theirs. -/
theorem GS.wr {G : Nat → Prop} (h : GS wo w g fb n F S d ca) (k : Kept G w w1) (hG : ∀ b, b < w.heap.size → G b → ¬ F b ∧ ¬ S b ∧ b ≠ fb ∧ wo.heap.size ≤ b) (hS : ∀ b, S b → ¬ G b) (hf : ¬ G fb) :
    GS wo w1 g fb n (fun b => F b ∧ ¬ (w.heap.size ≤ b ∧ b < w1.heap.size)) S d ca :=
  ⟨h.ga.wr k (fun b hb hg => (hG b hb hg).1), h.fs.kept k hf hS, fun hh => h.nf hh.1, h.ns, fun b hb => ⟨fun hh => (h.sf b hb).1 hh.1, Nat.lt_of_lt_of_le (h.sf b hb).2.1 k.size, (h.sf b hb).2.2⟩, fun b hb => h.fw b hb.1, h.fl,
    h.ex.kept (k) (fun b hb => by
      by_cases hl : b < w.heap.size
      · exact (hG b hl hb).2.2.2
      · have := h.ex.size; omega)⟩
end
end Go.Proofs.Ytnbcmlphnllgeaa
