import Derived.Test.YtnbcmlphnllgeaaC
import Derived.Great.BuildSlice
set_option linter.unusedVariables false
set_option linter.unusedSimpArgs false
namespace Go.Proofs.Ytnbcmlphnllgeaa
open Go.RowKit
theorem rpAt {w : World} {b : Nat} {r : Rp} {t : TypeId} {fr : Nat × Nat} (K : w.heap[b]? = some (.cells r.vals.toArray t fr)) : w.rangeAt b 0 r.vals := fun j u hu => by
  rw [Nat.zero_add]
  exact blk_cell K (by simpa using hu)
theorem ld_op {w : World} {b o : Nat} {r : Rp} {ρ : Operand → Value} {dst : Option Tmp} {x : Operand} {ty : TypeId} {pos : String} {af : Array Edge} {gd : Option (Nat × Bool)} (h : w.rangeAt b o r.vals) (hx : ρ x = .pointer (some ⟨b, o, none⟩)) :
    (execOp ρ { dst := dst, op := .load 32 x, type := ty, pos := pos, after := af, guard := gd }).run Try.prog w = .ok (.value (.agg r.vals.toArray)) w := by
  unfold execOp
  simp only [hx, Instr.loadAt, Instr.sureAddr, Sem.run_bind, Sem.run_pure, Result.andThen_ok, run_loadVar_mid w b o 32 r.vals _ h Try.underlying32 rfl size38]
theorem rps_oneL (r : Rp) : rps [r] = r.vals := by simp [rps]
theorem shows_one {w : World} {r : Rp} (t : TypeId) : Shows (w.alloc (.cells r.vals.toArray t)) 3 (some ⟨w.heap.size, 0, none⟩) 1 (rps [r]) := by
  rw [rps_oneL]
  exact ⟨rfl, fun _ => ⟨_, rfl, by simp, World.news_of_block (heap_alloc_new w _)⟩⟩
theorem fill_rp (r : Rp) (z : Value) (hz : z.cells.size = 3) : Instr.fill (fun i => some (i * 3, 3)) ((Array.range (1 * 3)).map (z.cells[· % z.cells.size]!)) [(0, .agg r.vals.toArray)] = some r.vals.toArray := by
  rw [hz]
  generalize z.cells = cs
  kernel_rfl
theorem wp_bsR {w : World} {o : Oper} {a : Act} {K : Act → World → Prop} {Q : Exit → Act → World → Prop} {r : Rp} (x : Operand) (ho : o.op = .buildSlice 23 1 #[(0, x)]) (hx : a.eval x = .agg r.vals.toArray)
    (h : ∀ w', w' = w.alloc (.cells r.vals.toArray 32) → K (a.put o.dst (.slice (some ⟨w.heap.size, 0, none⟩) 1 1)) w') : o.wp Try.prog a w K Q := by
  obtain ⟨i, hi, hz, hsize, hby⟩ := el32.info
  refine wp_buildSlice 23 32 1 #[(0, x)] ho r.vals.toArray i _ Try.underlying23 hi hz (by rw [hsize]; decide) (by rw [hsize]; decide) ?_ (h _ rfl)
  rw [hsize]
  simp only [List.map_toArray, List.map_cons, List.map_nil, hx]
  exact fill_rp r _ rfl
theorem wp_stset {P : Program} {w : World} {o : Oper} {a : Act} {K : Act → World → Prop} {Q : Exit → Act → World → Prop} (ty : TypeId) (x y : Operand) (ho : o.op = .store ty x y)
    {g i : Nat} {u v : Value} (hc : w.cell? ⟨g, i, none⟩ = some u) (hf : w.frozen? ⟨g, i, none⟩ = false) (hx : a.eval x = .pointer (some ⟨g, i, none⟩)) (hy : a.eval y = v)
    (hsz : (P.info? ty).map (·.size) = some 1) (h1 : v.oneCell' = true) (hva : ∀ c, v ≠ .agg c)
    (h : K (a.put o.dst undef) (w.setCell ⟨g, i, none⟩ v)) : o.wp P a w K Q := by
  have hst : (store ⟨g, i, none⟩ v).run P w = .ok () (w.setCell ⟨g, i, none⟩ v) := by
    rw [run_store P w _ v _ h1, hc]
    simp [hf]
  have hcells : v.cells = #[v] := by cases v <;> first | rfl | exact absurd rfl (hva _)
  have hsv : (storeVar ty ⟨g, i, none⟩ v).run P w = .ok () (w.setCell ⟨g, i, none⟩ v) := by
    cases hq : P.info? ty with
    | none => simp [hq] at hsz
    | some q =>
      have hs : q.size = 1 := by simpa [hq] using hsz
      simp [storeVar, sizeOf, typeInfo, hq, hs, hcells, storeCells, Addr.add, hst]
  unfold Oper.wp execOp
  simp only [ho, hx, hy, Instr.storeAt, Instr.sureAddr, Sem.run_bind, Sem.run_pure, Result.andThen_ok, hsv]
  exact h
theorem set_grown (w : World) (g i : Nat) (v : Value) : w.grownBy (w.setCell ⟨g, i, none⟩ v) (some g) :=
  ⟨rfl, rfl, rfl, by simp [World.setCell], fun k hk hn => Below.heap_setCell _ _ _ _ (fun e => hn (by simp at e; rw [e]))⟩
theorem cell_ext {w W : World} {ad : Addr} {v : Value} (x : Ext w W) (h : w.cell? ad = some v) : W.cell? ad = some v :=
  (World.cell?_of_block (x.block _ (World.block_lt_of_cell? w _ h))).trans h
def mark (b : Bool) : List Pk → List Pk
  | [] => []
  | p :: l => (if b then { p with code := p.code + 64 } else p) :: l
theorem mark_len (b : Bool) (l : List Pk) : (mark b l).length = l.length := by cases l <;> rfl
theorem mark_get {b : Bool} {l : List Pk} {k : Nat} {p : Pk} (h : l[k]? = some p) : (mark b l)[k]? = some (if b = true ∧ k = 0 then { p with code := p.code + 64 } else p) := by
  cases l with
  | nil => simp at h
  | cons q l =>
    cases k with
    | zero => simp at h; subst h; cases b <;> simp [mark]
    | succ k => simpa [mark] using h
def QS.put (s : QS) (list : Int) (l : List Pk) : Bool × QS :=
  if ¬ (0 ≤ list ∧ list < 4) ∨ samp l = false then (false, s)
  else if s.most < s.l.length + l.length then (false, { s with lost := s.lost.set list.toNat true })
  else (true, { s with l := s.l ++ mark (s.lost.getD list.toNat false) l, lost := s.lost.set list.toNat false })
def FromR (w : World) (rs rs' : List Rp) : Prop := ∀ r ∈ rs', ∀ ad, r.A = some ad → (∃ r0 ∈ rs, r0.A = some ad) ∨ w.heap.size ≤ ad.block
theorem FromR.same (w : World) (rs : List Rp) : FromR w rs rs := fun r hr ad e => .inl ⟨r, hr, e⟩
def QPost (w w' : World) (ty : TypeId) (g : Nat) (s : QS) (rs : List Rp) (T : Nat → Option Tg) : Prop := ∃ rs' va T', QuC w' ty g s rs' va T' ∧ Kept (fun b => T b ≠ none) w w' ∧ (∀ b t, T' b = some t → T b ≠ none ∨ w.heap.size ≤ b) ∧ FromR w rs rs'
theorem QPost.same {w w' : World} {ty : TypeId} {g : Nat} {s : QS} {rs : List Rp} {va : Tg → Value} {T : Nat → Option Tg} (h : QuC w ty g s rs va T) (x : Ext w w') : QPost w w' ty g s rs T := ⟨rs, va, T, h.ext x, .of_ext x, fun b t hb => .inl (by rw [hb]; simp), FromR.same _ _⟩
theorem tags_trans {w w1 w2 : World} {T T1 T2 : Nat → Option Tg} (k1 : Kept (fun b => T b ≠ none) w w1) (b1 : ∀ b t, T1 b = some t → T b ≠ none ∨ w.heap.size ≤ b) (k2 : Kept (fun b => T1 b ≠ none) w1 w2) (b2 : ∀ b t, T2 b = some t → T1 b ≠ none ∨ w1.heap.size ≤ b) :
    Kept (fun b => T b ≠ none) w w2 ∧ ∀ b t, T2 b = some t → T b ≠ none ∨ w.heap.size ≤ b := by
  refine ⟨k1.trans k2 fun i hi h => ?_, fun b t hb => ?_⟩
  · obtain ⟨t, ht⟩ := Option.ne_none_iff_exists'.1 h
    exact (b1 i t ht).elim id (fun h => by omega)
  · rcases b2 b t hb with h | h
    · obtain ⟨t1, ht⟩ := Option.ne_none_iff_exists'.1 h
      exact b1 b t1 ht
    · exact .inr (Nat.le_trans k1.size h)
section
variable {w : World} {g : Nat} {s : QS} {rs : List Rp} {va : Tg → Value} {T : Nat → Option Tg}
end
end Go.Proofs.Ytnbcmlphnllgeaa
