import Derived.Test.YtjgmnbfadnlikaaS
set_option linter.unusedVariables false
set_option linter.unusedSimpArgs false
namespace Go.Proofs.Ytjgmnbfadnlikaa
open Go.RowKit
/-- the first k segments. -/
def MS.pre (s : MS) (k : Nat) : MS := ⟨s.ram, s.segs.take k⟩
theorem pre_len {s : MS} {k : Nat} (h : k ≤ s.segs.length) : (s.pre k).segs.length = k := by simp [MS.pre]; omega
theorem pre_add {s : MS} {k : Nat} {q : Sg} (hq : s.segs[k]? = some q) : (s.pre k).add q = s.pre (k + 1) := by
  unfold MS.add MS.pre
  simp only
  rw [List.take_add_one, hq]
  rfl
theorem pre_all (s : MS) : s.pre s.segs.length = s := by unfold MS.pre; rw [List.take_length]
theorem pre_ok {s : MS} (h : s.ok) (k : Nat) : (s.pre k).ok := ⟨h.r, h.rb, by have := h.n; simp only [MS.pre, List.length_take]; omega, fun g hg => h.g g (List.mem_of_mem_take hg)⟩
/-- memory without segments, whatever its bytes' block. -/
theorem mem_first {w : World} {g : Nat} {ram : List Int} {v : Value} (hg : w.heap[g]? = some (.cells #[v, .slice none 0 0] 62 (0, 0))) (hv : w.ownsRow 0 5 1 v ram.length (u8s ram)) (hne : ∀ b, v.ownBlock = some b → b ≠ g) (hl : ram.length ≤ 1024) (hb : Byts ram) :
    MemC w g ⟨ram, []⟩ (fun t => if t = (0, 0, 0) then .slice (some ⟨g, 0, none⟩) 1 1 else if t = (1, 0, 0) then v else .slice none 0 0) (fun b => if b = g then some (0, 0, 0) else if v.ownBlock = some b then some (1, 0, 0) else none) := by
  refine ⟨⟨fun t p hp => ?_, fun t p hp b hb => ?_, fun b t hb => ?_⟩, by simp, ⟨hl, hb, by simp, by simp⟩⟩
  · rcases ok_below hp with rfl | rfl | rfl | ⟨i, hi, rfl⟩ | ⟨i, j, hi, rfl⟩
    · simp [mspec] at hp
      rw [← hp]
      simp only [if_true]
      exact obj_own (xs := [v, .slice none 0 0]) hg (Nat.zero_le _) rfl
    · simp [mspec] at hp
      rw [← hp]
      simpa using hv
    · simp [mspec, segRow] at hp
      rw [← hp]
      simp
      exact ⟨rfl, .inl ⟨rfl, rfl⟩⟩
    · simp at hi
    · simp at hi
  · rcases ok_below hp with rfl | rfl | rfl | ⟨i, hi, rfl⟩ | ⟨i, j, hi, rfl⟩
    · simp [Value.ownBlock] at hb
      simp [hb]
    · simp at hb
      simp [hb, hne b hb]
    · simp [Value.ownBlock] at hb
    · simp at hi
    · simp at hi
  · by_cases e : b = g
    · subst e; exact blk_lt hg
    · by_cases e2 : v.ownBlock = some b
      · exact own_lt hv e2
      · simp [e, e2] at hb
/-- a page of any bytes, by names. -/
theorem page_put {w w' : World} {s : MS} {va : Tg → Value} {T : Nat → Option Tg} {k n c P : Nat} {ps : List (List Int)} {p : List Int} {v : Value} (hk : s.segs.length = k) (h : Own w va T (nspec s va k n c ps)) (hc : ps.length = c) (hva : va (3, k, 0) = .slice (some ⟨P, 0, none⟩) n n) {g : Nat} (hg : va (0, 0, 0) = .slice (some ⟨g, 0, none⟩) 1 1) (x : Ext w w') (hp : 1 ≤ p.length) (hv : w'.ownsRow w.heap.size 5 1 v p.length (u8s p)) {lo : Nat} (hT : ∀ b t, T b = some t → lo ≤ b) (hlo : lo ≤ w.heap.size) :
    ∃ vc Tc, Own w' vc Tc (nspec s vc k n c (ps ++ [p])) ∧ vc (3, k, 0) = .slice (some ⟨P, 0, none⟩) n n ∧ vc (0, 0, 0) = .slice (some ⟨g, 0, none⟩) 1 1 ∧ vc (4, k, c) = v ∧ ∀ b t, Tc b = some t → lo ≤ b := by
  subst hk
  obtain ⟨B, cc, rfl, _, _⟩ := hv.form (by omega)
  have hB := hv.lt B rfl
  have := own_page h hc x hB.1 hB.2 (own_base hv (Nat.zero_le _)) (fun b e => by injection e with e; exact e.symm)
  refine ⟨_, _, this, by simp; exact hva, by simp; exact hg, by simp, ?_⟩
  intro b t hb
  by_cases e : b = B
  · omega
  · simp only [if_neg e] at hb; exact hT b t hb
theorem mem_addK {w : World} {s : MS} {va : Tg → Value} {T : Nat → Option Tg} {g n k P : Nat} {w1 : World} {q : Sg} {v' sv : Value} (hk : s.segs.length = k) (h : Own w va T (nspec s va k n n q.pages)) (hg0 : va (0, 0, 0) = .slice (some ⟨g, 0, none⟩) 1 1) (h3 : va (3, k, 0) = .slice (some ⟨P, 0, none⟩) n n) (hok : (s.add q).ok) (hn : q.pages.length = n) (hsv : va (2, 0, 0) = sv)
    (hv : w1.ownsRow 0 64 3 v' (k + 1) (segRow va 0 s.segs ++ [.slice (some ⟨P, 0, none⟩) n n, .int .i64 (q.a : Int), .int .i64 (q.x : Int)])) (hg : w.grownBy w1 sv.ownBlock) (hat : v'.ownBlock = sv.ownBlock ∨ v'.ownBlock = some w.heap.size) :
    ∃ va' T', (w1.frozen? ⟨g, 1, none⟩ = false ∧ ∃ u, w1.cell? ⟨g, 1, none⟩ = some u) ∧ MemC (w1.setCell ⟨g, 1, none⟩ v') g (s.add q) va' T' ∧ ∀ b t, T' b = some t → T b ≠ none ∨ w.heap.size ≤ b := by
  subst hk hsv
  exact mem_add h hg0 hok hn (by rw [h3]; exact hv) hg hat
theorem size60 : (Try.prog.info? 60).map (·.size) = some 1 := by kernel_rfl
theorem set_grown (w : World) (g i : Nat) (v : Value) : w.grownBy (w.setCell ⟨g, i, none⟩ v) (some g) :=
  ⟨rfl, rfl, rfl, by simp [World.setCell], fun k hk hn => Below.heap_setCell _ _ _ _ (fun e => hn (by simp at e; rw [e]))⟩
theorem wp_stset {P : Program} {w : World} {o : Oper} {a : Act} {K : Act → World → Prop} {Q : Exit → Act → World → Prop} (ty : TypeId) (x y : Operand) (ho : o.op = .store ty x y)
    {g i : Nat} {u v : Value} (hc : w.cell? ⟨g, i, none⟩ = some u) (hf : w.frozen? ⟨g, i, none⟩ = false) (hx : a.eval x = .pointer (some ⟨g, i, none⟩)) (hy : a.eval y = v)
    (hsz : (P.info? ty).map (·.size) = some 1) (h1 : v.oneCell' = true) (hva : ∀ c, v ≠ .agg c)
    (h : K (a.put o.dst undef) (w.setCell ⟨g, i, none⟩ v)) : o.wp P a w K Q := by
  have hst : (store ⟨g, i, none⟩ v).run P w = .ok () (w.setCell ⟨g, i, none⟩ v) := by
    rw [run_store P w _ v _ h1, hc]
    simp [hf]
  have hcells : v.cells = #[v] := by cases v <;> first | rfl | exact absurd rfl (hva _)
  have hsv : (storeVar ty ⟨g, i, none⟩ v).run P w = .ok () (w.setCell ⟨g, i, none⟩ v) := by
    cases hq : P.info? ty with
    | none => simp [hq] at hsz
    | some q =>
      have hs : q.size = 1 := by simpa [hq] using hsz
      simp [storeVar, sizeOf, typeInfo, hq, hs, hcells, storeCells, Addr.add, hst]
  unfold Oper.wp execOp
  simp only [ho, hx, hy, Instr.storeAt, Instr.sureAddr, Sem.run_bind, Sem.run_pure, Result.andThen_ok, hsv]
  exact h
end Go.Proofs.Ytjgmnbfadnlikaa
