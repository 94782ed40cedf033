import Derived.Test.YtnbcmlphnllgeaaGJ
import Derived.Test.YtnbcmlphnllgeaaOpen
set_option linter.unusedVariables false
set_option linter.unusedSimpArgs false
namespace Go.Proofs.Ytnbcmlphnllgeaa
open Go.RowKit Go.ChangeShapes Go.WideShapes
theorem c3 : Try.prog.cellsOf 3 = 1 := by kernel_rfl
theorem c4 : Try.prog.cellsOf 4 = 1 := by kernel_rfl
theorem c5 : Try.prog.cellsOf 5 = 1 := by kernel_rfl
theorem c30 : Try.prog.cellsOf 30 = 1 := by kernel_rfl
theorem c32 : Try.prog.cellsOf 32 = 3 := by kernel_rfl
theorem c43 : Try.prog.cellsOf 43 = 1 := by kernel_rfl
theorem c45 : Try.prog.cellsOf 45 = 8 := by kernel_rfl
theorem list8 {α : Type} : ∀ {l : List α}, l.length = 8 → ∃ x0 x1 x2 x3 x4 x5 x6 x7, l = [x0, x1, x2, x3, x4, x5, x6, x7]
  | [x0, x1, x2, x3, x4, x5, x6, x7], _ => ⟨x0, x1, x2, x3, x4, x5, x6, x7, rfl⟩
section
variable {H : Type} {enc : TypeId × Value → H} {W : World} {base : Nat} {held : Bool}
theorem bytes_cells (fuel : Nat) {v : Value} {d : DataW H} {p : List MemPlace} (h : DataW.trod enc Try.prog W base (fun _ => true) held fuel 30 [v] = some (d, p)) : ∃ (A : Option Addr) (n c : Nat) (bs : List Int), v = .slice A n c ∧ Rd W A n bs ∧ n ≤ c ∧ c ≤ maxLen := by
  have hsl : ∃ A n' cp, v = .slice A n' cp := by
    rcases Go.ChangeShapes.open_ints Try.underlying30 Try.underlying5 (by kernel_rfl) h with ⟨hcs, _⟩ | ⟨x, l, c', zs, hcs, _⟩
    · simp at hcs; exact ⟨_, _, _, hcs⟩
    · simp at hcs; exact ⟨_, _, _, hcs⟩
  obtain ⟨A, n', cp, rfl⟩ := hsl
  obtain ⟨bs, rdi, le, cm⟩ := RdI.open_ (H := H) (enc := enc) (w := W) (base := base) (held := held) (d := d) (p := p) Try.underlying30 Try.underlying5 (by kernel_rfl) ⟨fuel, h⟩
  exact ⟨A, n', cp, bs, rfl, rdi.rd, le, cm⟩
theorem rp_cells (fuel : Nat) (cs : List Value) (x : DataW H × List MemPlace) (hl : cs.length = 3) (hf : DataW.trod enc Try.prog W base (fun _ => true) held fuel 32 cs = some x) : ∃ r : Rp, cs = r.vals ∧ r.ok W := by
  obtain ⟨v0, v1, v2, rfl⟩ : ∃ v0 v1 v2, cs = [v0, v1, v2] := by
    match cs, hl with
    | [a, b, c], _ => exact ⟨a, b, c, rfl⟩
  obtain ⟨xs, n, _, _, _, hlen, hg⟩ := DataW.trod_struct Try.underlying32 hf
  have some_ : ∀ j, j < 3 → ∃ y, xs[j]? = some y := fun j hj => ⟨_, List.getElem?_eq_getElem (by rw [hlen]; simpa using hj)⟩
  obtain ⟨y0, e0⟩ := some_ 0 (by omega)
  obtain ⟨y1, e1⟩ := some_ 1 (by omega)
  obtain ⟨y2, e2⟩ := some_ 2 (by omega)
  have h0 := hg 0 _ rfl
  have h1 := hg 1 _ rfl
  have h2 := hg 2 _ rfl
  simp [Value.cells, c5, c30, e0, e1, e2] at h0 h1 h2
  obtain ⟨x0, q0, _, w0⟩ := DataW.trod_int Try.underlying5 h0
  obtain ⟨x1, q1, _, w1⟩ := DataW.trod_int Try.underlying5 h1
  obtain ⟨A, n', cp, bs, rfl, rd, le, cm⟩ := bytes_cells n h2
  injection q0 with q0
  injection q1 with q1
  subst q0 q1
  exact ⟨⟨x0, x1, A, n', cp, bs⟩, rfl, wf_u8 w0, wf_u8 w1, rd, le, cm⟩
theorem open_rep {b0 : Nat} {r : Reach} {v : Value} {d : DataW H} {p : List MemPlace}
    (hv : Value.okWide Try.prog W r b0 32 v) (h : DataW.Trod enc Try.prog W base (fun _ => true) held 32 v d p) :
    ∃ y : Rp, v = .agg #[.int .u8 y.kind, .int .u8 y.code, .slice y.A y.n y.c] ∧ y.ok W := by
  obtain ⟨⟨cs⟩, rfl, hsz⟩ := okWide_struct Try.underlying32 hv
  obtain ⟨fuel, hf⟩ := h
  obtain ⟨y, hy, ok⟩ := rp_cells fuel cs _ (by simpa [c32] using hsz) hf
  exact ⟨y, by rw [hy]; rfl, ok⟩
theorem open_reps {b0 : Nat} {r : Reach} {v : Value} {d : DataW H} {p : List MemPlace}
    (hv : Value.okWide Try.prog W r b0 23 v) (h : DataW.Trod enc Try.prog W base (fun _ => true) held 23 v d p) :
    ∃ (A : Option Addr) (n c : Nat) (l : List Rp), v = .slice A n c ∧ n ≤ c ∧ c ≤ maxLen ∧ n = l.length ∧ Shows W 3 A n (rps l) ∧ ∀ a ∈ l, a.ok W :=
  open_rows Try.underlying23 c32 (by omega) rp_len (fun n cs x => rp_cells n cs x) hv h
theorem tables_cells (fuel : Nat) {v : Value} {d : DataW H} {p : List MemPlace} (h : DataW.trod enc Try.prog W base (fun _ => true) held fuel 43 [v] = some (d, p)) : ∃ (A : Option Addr) (n c : Nat), v = .slice A n c ∧ n ≤ c ∧ c ≤ maxLen := by
  rcases Deep.open_slice Try.underlying43 h with ⟨h0, _⟩ | ⟨a, len, cap, m, n', D, Pl, hcs, hb, hl, hm, _⟩
  · simp at h0
    subst h0
    exact ⟨none, 0, 0, rfl, Nat.le_refl _, by simp⟩
  · simp at hcs
    subst hcs
    exact ⟨_, _, _, rfl, hl, hm⟩
theorem ls_cells (fuel : Nat) (cs : List Value) (x : DataW H × List MemPlace) (hl : cs.length = 8) (hf : DataW.trod enc Try.prog W base (fun _ => true) held fuel 45 cs = some x) : ∃ y : Ls, cs = y.vals ∧ y.ok := by
  obtain ⟨v0, v1, v2, v3, v4, v5, v6, v7, rfl⟩ := list8 hl
  obtain ⟨xs, n, _, _, _, hlen, hg⟩ := DataW.trod_struct Try.underlying45 hf
  have some_ : ∀ j, j < 8 → ∃ y, xs[j]? = some y := fun j hj => ⟨_, List.getElem?_eq_getElem (by rw [hlen]; simpa using hj)⟩
  obtain ⟨y0, e0⟩ := some_ 0 (by omega)
  obtain ⟨y1, e1⟩ := some_ 1 (by omega)
  obtain ⟨y2, e2⟩ := some_ 2 (by omega)
  obtain ⟨y3, e3⟩ := some_ 3 (by omega)
  obtain ⟨y4, e4⟩ := some_ 4 (by omega)
  obtain ⟨y5, e5⟩ := some_ 5 (by omega)
  obtain ⟨y6, e6⟩ := some_ 6 (by omega)
  obtain ⟨y7, e7⟩ := some_ 7 (by omega)
  have h0 := hg 0 _ rfl
  have h1 := hg 1 _ rfl
  have h2 := hg 2 _ rfl
  have h3 := hg 3 _ rfl
  have h4 := hg 4 _ rfl
  have h5 := hg 5 _ rfl
  have h6 := hg 6 _ rfl
  have h7 := hg 7 _ rfl
  simp [c3, c4, c5, c43, e0, e1, e2, e3, e4, e5, e6, e7] at h0 h1 h2 h3 h4 h5 h6 h7
  obtain ⟨f, k0, _, w0⟩ := DataW.trod_int Try.underlying3 h0
  obtain ⟨A, m, c, rfl, le, cm⟩ := tables_cells n (d := y1.1) (p := y1.2) h1
  obtain ⟨st, k2, _⟩ := DataW.trod_bool Try.underlying4 h2
  obtain ⟨ev, k3, _, w3⟩ := DataW.trod_int Try.underlying5 h3
  obtain ⟨pre, k4, _, w4⟩ := DataW.trod_int Try.underlying5 h4
  obtain ⟨pri, k5, _, w5⟩ := DataW.trod_int Try.underlying5 h5
  obtain ⟨on, k6, _⟩ := DataW.trod_bool Try.underlying4 h6
  obtain ⟨ch, k7, _⟩ := DataW.trod_bool Try.underlying4 h7
  injection k0 with k0
  injection k2 with k2
  injection k3 with k3
  injection k4 with k4
  injection k5 with k5
  injection k6 with k6
  injection k7 with k7
  subst k0 k2 k3 k4 k5 k6 k7
  exact ⟨⟨f, A, m, c, st, ev, pre, pri, on, ch⟩, rfl, le, cm⟩
theorem open_lists {b0 : Nat} {r : Reach} {v : Value} {d : DataW H} {p : List MemPlace}
    (hv : Value.okWide Try.prog W r b0 22 v) (h : DataW.Trod enc Try.prog W base (fun _ => true) held 22 v d p) :
    ∃ (A : Option Addr) (n c : Nat) (l : List Ls), v = .slice A n c ∧ n ≤ c ∧ c ≤ maxLen ∧ n = l.length ∧ Shows W 8 A n (lss l) ∧ ∀ a ∈ l, a.ok :=
  open_rows Try.underlying22 c45 (by omega) ls_len (fun n cs x => ls_cells n cs x) hv h
end
end Go.Proofs.Ytnbcmlphnllgeaa
