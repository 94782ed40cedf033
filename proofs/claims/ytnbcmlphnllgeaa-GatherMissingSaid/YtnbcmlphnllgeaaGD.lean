import Derived.Test.YtnbcmlphnllgeaaGC
set_option linter.unusedVariables false
set_option linter.unusedSimpArgs false
namespace Go.Proofs.Ytnbcmlphnllgeaa
open Go.RowKit
section
variable {w w6 : World} {g : Nat} {ls : List Gl} {lv : Value} {T : Nat → Option Nat} {i rb n c : Nat} {x : Gl}
theorem ga_facts (h : GaC w g ls lv T) (hi : ls[i]? = some x) (hl : lv = .slice (some ⟨rb, 0, none⟩) n c) (k : Kept (fun b => T b = some (i + 2)) w w6) (lo : Bool) :
    w6.cell? ⟨rb, i * 4 + 2, none⟩ = some (.bool x.lost) ∧ w6.frozen? ⟨rb, i * 4 + 2, none⟩ = false ∧ w6.cell? ⟨rb, i * 4 + 3, none⟩ = some x.v ∧ w6.frozen? ⟨rb, i * 4 + 3, none⟩ = false ∧
    (w6.setCell ⟨rb, i * 4 + 2, none⟩ (.bool lo)).cell? ⟨rb, i * 4 + 3, none⟩ = some x.v ∧ (w6.setCell ⟨rb, i * 4 + 2, none⟩ (.bool lo)).frozen? ⟨rb, i * 4 + 3, none⟩ = false := by
  have own6 := own_keptF h.row k (fun b e e2 => by rw [h.rT b e] at e2; injection e2 with e2; omega)
  obtain ⟨own7, f2, q2⟩ := row_set own6 hi hl { x with lost := lo } (r := 2) (.bool lo) (by omega) rfl
  obtain ⟨_, f3, q3⟩ := row_set own6 hi hl { x with v := x.v } (r := 3) x.v (by omega) rfl
  have hil : i < ls.length := (List.getElem?_eq_some_iff.1 hi).1
  have hi7 : (ls.set i { x with lost := lo })[i]? = some { x with lost := lo } := List.getElem?_set_self hil
  obtain ⟨_, f4, q4⟩ := row_set (ls := ls.set i { x with lost := lo }) (by rw [List.length_set]; exact own7) hi7 hl { x with lost := lo } (r := 3) x.v (by omega) rfl
  exact ⟨q2, f2, q3, f3, q4, f4⟩
theorem ga_two (h : GaC w g ls lv T) (hi : ls[i]? = some x) (hl : lv = .slice (some ⟨rb, 0, none⟩) n c) (k : Kept (fun b => T b = some (i + 2)) w w6) {S : Nat → Prop} {v : Value} {els : List (Value × List Int)} (lo : Bool)
    (hBL : BL w6 S v els) (hS : ∀ b, S b → (T b = some (i + 2) ∨ w.heap.size ≤ b) ∧ b < w6.heap.size) (he : els.length ≤ 100000) :
    ∃ T', GPost w ((w6.setCell ⟨rb, i * 4 + 2, none⟩ (.bool lo)).setCell ⟨rb, i * 4 + 3, none⟩ v) g (ls.set i { x with lost := lo, v := v, els := els }) lv T T' ∧ (∀ b, T b = some (i + 2) → ¬ S b → T' b = none) ∧ ∀ b, S b → T' b = some (i + 2) := by
  have own6 := own_keptF h.row k (fun b e e2 => by rw [h.rT b e] at e2; injection e2 with e2; omega)
  have hrb : T rb = some 1 := h.rT rb (by rw [hl]; rfl)
  obtain ⟨own7, _, _⟩ := row_set own6 hi hl { x with lost := lo } (r := 2) (.bool lo) (by omega) rfl
  have hil : i < ls.length := (List.getElem?_eq_some_iff.1 hi).1
  have hi7 : (ls.set i { x with lost := lo })[i]? = some { x with lost := lo } := List.getElem?_set_self hil
  obtain ⟨own8, _, _⟩ := row_set (ls := ls.set i { x with lost := lo }) (by rw [List.length_set]; exact own7) hi7 hl { x with lost := lo, v := v, els := els } (r := 3) v (by omega) rfl
  rw [List.length_set, List.set_set] at own8
  exact ga_re h hi k hBL hS ((Kept.of_set _ hrb).trans' (Kept.of_set _ hrb)) own8 rfl he
theorem ga_one (h : GaC w g ls lv T) (hi : ls[i]? = some x) (hl : lv = .slice (some ⟨rb, 0, none⟩) n c) (k : Kept (fun b => T b = some (i + 2)) w w6) {S : Nat → Prop} {v : Value} {els : List (Value × List Int)}
    (hBL : BL w6 S v els) (hS : ∀ b, S b → (T b = some (i + 2) ∨ w.heap.size ≤ b) ∧ b < w6.heap.size) (he : els.length ≤ 100000) :
    ∃ T', GPost w (w6.setCell ⟨rb, i * 4 + 3, none⟩ v) g (ls.set i { x with v := v, els := els }) lv T T' ∧ (∀ b, T b = some (i + 2) → ¬ S b → T' b = none) ∧ ∀ b, S b → T' b = some (i + 2) := by
  have own6 := own_keptF h.row k (fun b e e2 => by rw [h.rT b e] at e2; injection e2 with e2; omega)
  have hrb : T rb = some 1 := h.rT rb (by rw [hl]; rfl)
  obtain ⟨own7, _, _⟩ := row_set own6 hi hl { x with v := v, els := els } (r := 3) v (by omega) rfl
  exact ga_re h hi k hBL hS (Kept.of_set _ hrb) own7 rfl he
end
def overG (code : Int) : Bool := decide (64 ≤ code)
def tabG (code : Int) : Nat := (if 64 ≤ code then code - 64 else code).toNat
def stepG (x : Gp) (k : Nat) (lost : Bool) (bs : List Int) : Bool × List (List Int) :=
  if k = 0 then (lost, [bs]) else if k = x.came.length ∧ lost = false then (x.lost, x.came ++ [bs]) else (false, [])
/-- a packet is taken: the sample (list, lost, bytes), and the lists then. -/
def takeG (l : List Gp) (kind code : Int) (bs : List Int) : Option (Nat × Bool × List (List Int)) × List Gp :=
  if kind ≠ 4 then (none, l) else
  match findG l (tabG code) with
  | some (i, k, true) =>
    let x := l.getD i ⟨0, false, false, []⟩
    let y := stepG x k (overG code) bs
    if y.2.length < x.tables then (none, l.set i { x with lost := y.1, came := y.2 }) else (some (i, y.1, y.2), l.set i { x with lost := false, came := [] })
  | _ => (none, l)
/-- a sample. -/
structure Sm where
  list : Nat
  lost : Bool
  v : Value
def Sm.vals (s : Sm) : List Value := [.int .i64 (s.list : Int), .bool s.lost, s.v]
def zsm : Sm := ⟨0, false, .slice none 0 0⟩
/-- it is what was to be told. -/
def SmIs (w : World) (S : Nat → Prop) (s : Sm) (els : List (Value × List Int)) (o : Option (Nat × Bool × List (List Int))) : Prop :=
  BL w S s.v els ∧ match o with
    | none => s = zsm ∧ els = []
    | some (i, lo, ca) => s.list = i ∧ s.lost = lo ∧ els.map (·.2) = ca
theorem SmIs.none (w : World) (S : Nat → Prop) : SmIs w S zsm [] none := ⟨BL.nil w S, rfl, rfl⟩
def TakeQ (ls : List Gl) (lv : Value) (T : Nat → Option Nat) (g : Nat) (o : Option (Nat × Bool × List (List Int)) × List Gp) (w : World) (e : Ending) (w' : World) : Prop :=
  ∃ (s : Sm) (els : List (Value × List Int)) (ls' : List Gl) (T' : Nat → Option Nat) (S : Nat → Prop), e = .returned (.tuple #[.agg s.vals.toArray, .bool o.1.isSome]) ∧ GPost w w' g ls' lv T T' ∧ ls'.map Gl.p = o.2 ∧ SmIs w' S s els o.1 ∧ ∀ b, S b → T' b = none ∧ b < w'.heap.size ∧ (T b ≠ none ∨ w.heap.size ≤ b)
theorem zsm_one : ∀ u ∈ zsm.vals, u.oneCell' = true := by
  intro u hu
  simp [Sm.vals, zsm] at hu
  rcases hu with rfl | rfl | rfl <;> rfl
theorem take_nil (kind code : Int) (A : Option Addr) (n c : Nat) (w : World) : Calls Try.prog 13 #[.pointer none, .agg #[.int .u8 kind, .int .u8 code, .slice A n c]] w fun e w' => e = .returned (.tuple #[.agg zsm.vals.toArray, .bool false]) ∧ Ext w w' := by
  obtain ⟨w0, hw0⟩ : ∃ V, V = w.alloc (.cells #[.int .u8 kind, .int .u8 code, .slice A n c] 32) := ⟨_, rfl⟩
  have k0 : w0.heap[w.heap.size]? = some (.cells #[.int .u8 kind, .int .u8 code, .slice A n c] 32 (0, 0)) := by rw [hw0]; exact heap_alloc_new _ _
  have x0 : Ext w w0 := by rw [hw0]; exact (Ext.refl _).alloc _
  have hs0 : w0.heap.size = w.heap.size + 1 := by rw [hw0]; exact Array.size_push _
  obtain ⟨w1, hw1⟩ : ∃ V, V = w0.alloc (.cells zsm.vals.toArray 35) := ⟨_, rfl⟩
  obtain ⟨q, hq⟩ : ∃ q, q = w.heap.size + 1 := ⟨_, rfl⟩
  have k1 : w1.heap[q]? = some (.cells zsm.vals.toArray 35 (0, 0)) := by rw [hw1, hq, ← hs0]; exact heap_alloc_new _ _
  have x1 : Ext w0 w1 := by rw [hw1]; exact (Ext.refl _).alloc _
  have k01 := (x1.block _ (blk_lt k0)).trans k0
  have hqw : w.heap.size ≤ q := by omega
  have X1 := x0.trans x1
  go_enter Try.func13, Try.ntmps13
  go_upto_region 1 with (fail)
  rw [← hw0]
  change Code.wp _ _ _ _ (w0.alloc (.cells zsm.vals.toArray 35))
  rw [← hw1, ← hq]
  clear hw0 hw1 hs0 hq
  go_wp2_with (refine wpList_strow rfl 35 (.tmp 4) (.tmp 20) rfl k1 rfl rfl size35 rfl (all_oneCell_toArray zsm_one) ?_; intro w5 k5 x5)
  try simp only [Exit.inBlock, Exit.then]
  refine bodyPost_ret (results_row2 rfl rfl k5.out Try.underlying35 rfl (by kernel_rfl)) rfl ?_
  exact ⟨rfl, Ext.of_grown X1 x5 (fun k e => by injection e with e; omega)⟩
section
variable {w : World} {g : Nat} {ls : List Gl} {lv : Value} {T : Nat → Option Nat}
theorem take_kind (h : GaC w g ls lv T) {kind : Int} (hk : kind ≠ 4) (code : Int) (A : Option Addr) (n c : Nat) (bs : List Int) : Calls Try.prog 13 #[.pointer (some ⟨g, 0, none⟩), .agg #[.int .u8 kind, .int .u8 code, .slice A n c]] w (TakeQ ls lv T g (takeG (ls.map Gl.p) kind code bs) w) := by
  have ht : takeG (ls.map Gl.p) kind code bs = (none, ls.map Gl.p) := by unfold takeG; rw [if_pos hk]
  rw [ht]
  have HH := Lib.hid h
  clear h ht
  have hkb : (kind == 4) = false := by simpa using hk
  have hkb2 : (kind != 4) = true := by simpa using hk
  obtain ⟨w0, hw0⟩ : ∃ V, V = w.alloc (.cells #[.int .u8 kind, .int .u8 code, .slice A n c] 32) := ⟨_, rfl⟩
  have k0 : w0.heap[w.heap.size]? = some (.cells #[.int .u8 kind, .int .u8 code, .slice A n c] 32 (0, 0)) := by rw [hw0]; exact heap_alloc_new _ _
  have x0 : Ext w w0 := by rw [hw0]; exact (Ext.refl _).alloc _
  have hs0 : w0.heap.size = w.heap.size + 1 := by rw [hw0]; exact Array.size_push _
  obtain ⟨w1, hw1⟩ : ∃ V, V = w0.alloc (.cells zsm.vals.toArray 35) := ⟨_, rfl⟩
  obtain ⟨q, hq⟩ : ∃ q, q = w.heap.size + 1 := ⟨_, rfl⟩
  have k1 : w1.heap[q]? = some (.cells zsm.vals.toArray 35 (0, 0)) := by rw [hw1, hq, ← hs0]; exact heap_alloc_new _ _
  have x1 : Ext w0 w1 := by rw [hw1]; exact (Ext.refl _).alloc _
  have k01 := (x1.block _ (blk_lt k0)).trans k0
  have hqw : w.heap.size ≤ q := by omega
  have X1 := x0.trans x1
  have m0 := blk_cell (i := 0) (v := .int .u8 kind) k01 rfl
  go_enter Try.func13, Try.ntmps13
  go_upto_region 1 with (fail)
  rw [← hw0]
  change Code.wp _ _ _ _ (w0.alloc (.cells zsm.vals.toArray 35))
  rw [← hw1, ← hq]
  clear hw0 hw1 hs0 hq
  go_wp2_with (refine wpList_strow rfl 35 (.tmp 4) (.tmp 20) rfl k1 rfl rfl size35 rfl (all_oneCell_toArray zsm_one) ?_; intro w5 k5 x5)
  try simp only [Exit.inBlock, Exit.then]
  refine bodyPost_ret (results_row2 rfl rfl k5.out Try.underlying35 rfl (by kernel_rfl)) rfl ?_
  exact ⟨zsm, [], ls, T, fun _ => False, rfl, GPost.same HH.out (Ext.of_grown X1 x5 (fun k e => by injection e with e; omega)), rfl, SmIs.none _ _, fun b h => h.elim⟩
end
end Go.Proofs.Ytnbcmlphnllgeaa
