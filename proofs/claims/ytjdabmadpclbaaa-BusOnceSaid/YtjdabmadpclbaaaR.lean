import Derived.Test.YtjdabmadpclbaaaQ
set_option linter.unusedVariables false
set_option linter.unusedSimpArgs false
namespace Go.Proofs.Ytjdabmadpclbaaa
open Go.RowKit
theorem and0 (x : Int) (hx : 0 ≤ x ∧ x < 4294967296) : bits .and .u32 x 0 = 0 := by
  rw [u32_and x 0 hx.1 hx.2 (by omega) (by omega)]; simp
theorem xor_self (x : Int) (hx : 0 ≤ x ∧ x < 4294967296) : bits .xor .u32 x x = 0 := by
  rw [u32_xor x x hx.1 hx.2 hx.1 hx.2]; simp
theorem xor_bd (x y : Int) (hx : 0 ≤ x ∧ x < 4294967296) (hy : 0 ≤ y ∧ y < 4294967296) : 0 ≤ bits .xor .u32 x y ∧ bits .xor .u32 x y < 4294967296 := by
  rw [u32_xor x y hx.1 hx.2 hy.1 hy.2]
  have := Nat.xor_lt_two_pow (n := 32) (show x.toNat < 2 ^ 32 by omega) (show y.toNat < 2 ^ 32 by omega)
  omega
theorem xor_one (x : Int) (hx : 0 ≤ x ∧ x < 4294967296) : bits .and .u32 (bits .xor .u32 (bits .xor .u32 x 1) x) 4294967295 = 1 := by
  have h1 := xor_bd x 1 hx (by omega)
  have h2 : bits .xor .u32 (bits .xor .u32 x 1) x = 1 := by
    rw [u32_xor _ x h1.1 h1.2 hx.1 hx.2, u32_xor x 1 hx.1 hx.2 (by omega) (by omega)]
    rw [Int.toNat_natCast, Nat.xor_comm x.toNat, Nat.xor_assoc, Nat.xor_self]
    simp
  rw [h2]; decide
def tk (l : List Fi) (f : Fr) : Bool := f.may && l.any (fits · f)
theorem take_new (l : List Fi) (f : Fr) : ((BSt.new l).take f).2 = tk l f := by
  unfold BSt.take tk BSt.lets BSt.new
  split
  · rename_i h; simpa using h.symm
  · rename_i h; simpa using h
theorem tk_all (f : Fr) (h : f.ok) : tk [⟨0, 0, f.ext⟩] f = f.may := by
  simp [tk, fits, and0 _ (xor_bd 0 f.id (by omega) h)]
theorem tk_own (f : Fr) (h : f.ok) : tk [⟨4294967295, f.id, f.ext⟩] f = f.may := by
  have : bits .and .u32 0 4294967295 = 0 := by kernel_rfl
  simp [tk, fits, xor_self _ h, this]
theorem tk_other (f : Fr) (h : f.ok) : tk [⟨4294967295, bits .xor .u32 f.id 1, f.ext⟩, ⟨0, 0, !f.ext⟩] f = false := by
  simp [tk, fits, xor_one _ h]
/-- a box that lies within some blocks. -/
def BxI (lo hi : Nat) (w : World) (ty : TypeId) (g : Nat) (s : BSt) : Prop := ∃ F, BxC w ty g s F ∧ ∀ k, F k → lo ≤ k ∧ k < hi
theorem BxI.ext {lo hi : Nat} {w w' : World} {ty : TypeId} {g : Nat} {s : BSt} (h : BxI lo hi w ty g s) (x : Ext w w') : BxI lo hi w' ty g s := by
  obtain ⟨F, h1, h2⟩ := h; exact ⟨F, h1.ext x, h2⟩
theorem BxI.keep {lo hi lo' hi' : Nat} {w w' : World} {ty : TypeId} {g : Nat} {s : BSt} (h : BxI lo hi w ty g s) (k : Kept (fun i => lo' ≤ i ∧ i < hi') w w') (hh : hi' ≤ lo) : BxI lo hi w' ty g s := by
  obtain ⟨F, h1, h2⟩ := h; exact ⟨F, h1.kept k (fun i hi e => by have := h2 i hi; omega), h2⟩
theorem BxO.toI {w0 w : World} {ty : TypeId} {g : Nat} {s : BSt} (h : BxO w0 w ty g s) : BxI w0.heap.size w.heap.size w ty g s := by
  obtain ⟨F, h1, _, h3⟩ := h; exact ⟨F, h1, fun k hk => ⟨h3 k hk, h1.lt k hk⟩⟩
theorem take_i {lo hi : Nat} {w : World} {g : Nat} {l : List Fi} {b : Bool} (h : BxI lo hi w 71 g (BSt.new l)) (f : Fr) (hf : f.ok) (hb : tk l f = b) : Calls Try.prog 35 #[.pointer (some ⟨g, 0, none⟩), .agg f.vals.toArray] w fun e w' => e = .returned (.bool b) ∧ Kept (fun k => lo ≤ k ∧ k < hi) w w' := by
  obtain ⟨F, h1, h2⟩ := h
  refine (take_any h1 f hf).mono fun e w' ⟨a, F', _, k, _⟩ => ⟨?_, k.mono (fun i _ e => h2 i e)⟩
  rw [take_new, hb] at a; exact a
theorem fill_fi (f : Fi) (z : Value) (hz : z.cells.size = 3) : Instr.fill (fun i => some (i * 3, 3)) ((Array.range (1 * 3)).map (z.cells[· % z.cells.size]!)) [(0, .agg f.vals.toArray)] = some f.vals.toArray := by
  rw [hz]
  generalize z.cells = cs
  kernel_rfl
theorem wpList_bsFi {w : World} {ops : Array Oper} {rest : List Oper} {o : Oper} {a : Act} {Q : Exit → Act → World → Prop} {f : Fi} (hgd : o.guard = none) (x : Operand) (ho : o.op = .buildSlice 22 1 #[(0, x)]) (hx : a.eval x = .agg f.vals.toArray)
    (h : wpList Try.prog ops Q rest (a.put o.dst (.slice (some ⟨w.heap.size, 0, none⟩) 1 1)) (w.alloc (.cells f.vals.toArray 61))) : wpList Try.prog ops Q (o :: rest) a w := by
  obtain ⟨i, hi, hz, hsize, hby⟩ := el22.info
  refine wpList_buildSlice hgd 22 61 1 #[(0, x)] ho f.vals.toArray i _ Try.underlying22 hi hz (by rw [hsize]; decide) (by rw [hsize]; decide) ?_ h
  rw [hsize]
  simp only [List.map_toArray, List.map_cons, List.map_nil, hx]
  exact fill_fi f _ rfl
theorem new_ok1 {x : Fi} (h : x.ok) : ∀ y ∈ [x], y.ok := by intro y hy; simp at hy; subst hy; exact h
theorem any_take {l : List Fi} {k : Nat} {x : Fi} {f : Fr} (hx : l[k]? = some x) : tk (l.take (k + 1)) f = (tk [x] f || tk (l.take k) f) := by
  unfold tk
  rw [List.take_add_one, hx]
  simp only [List.any_append, Option.toList, List.any_cons, List.any_nil, Bool.or_false]
  cases f.may <;> simp [Bool.or_comm]
theorem shows_fi2 {w : World} {f h : Fi} (t : TypeId) : Shows (w.alloc (.cells (f.vals ++ h.vals).toArray t)) 3 (some ⟨w.heap.size, 0, none⟩) 2 (fis [f, h]) := by
  have e : fis [f, h] = f.vals ++ h.vals := by simp [fis]
  rw [e]
  exact ⟨rfl, fun _ => ⟨_, rfl, by simp, World.news_of_block (heap_alloc_new w _)⟩⟩
end Go.Proofs.Ytjdabmadpclbaaa
