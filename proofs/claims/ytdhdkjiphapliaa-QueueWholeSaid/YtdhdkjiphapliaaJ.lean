import Derived.Test.YtdhdkjiphapliaaI
import Derived.Test.YtdhdkjiphapliaaOpen
set_option linter.unusedVariables false
set_option linter.unusedSimpArgs false
namespace Go.Proofs.Ytdhdkjiphapliaa
open Go.RowKit Go.ChangeShapes Go.WideShapes
structure Ac where
  k : Int
  list : Int
  A : Option Addr
  n : Nat
  c : Nat
  xs : List Rp
def Ac.vals (a : Ac) : List Value := [.int .u8 a.k, .int .i64 a.list, .slice a.A a.n a.c]
def acs (l : List Ac) : List Value := l.flatMap Ac.vals
structure Ac.ok (W : World) (a : Ac) : Prop where
  k : 0 ≤ a.k ∧ a.k < 256
  list : -9223372036854775808 ≤ a.list ∧ a.list < 9223372036854775808
  sh : Shows W 3 a.A a.n (rps a.xs)
  len : a.n = a.xs.length
  le : a.n ≤ a.c
  cm : a.c ≤ maxLen
  rok : ∀ x ∈ a.xs, x.ok W
theorem ac_len (a : Ac) : a.vals.length = 3 := rfl
theorem ac_one (a : Ac) : ∀ v ∈ a.vals, v.oneCell' = true := by
  intro v hv
  simp [Ac.vals] at hv
  rcases hv with rfl | rfl | rfl <;> rfl
theorem acs_one (l : List Ac) : ∀ v ∈ acs l, v.oneCell' = true := by
  intro v hv
  simp only [acs, List.mem_flatMap] at hv
  obtain ⟨a, _, hv⟩ := hv
  exact ac_one a v hv
theorem Ac.ok.ext {W W' : World} {a : Ac} (h : a.ok W) (x : Ext W W') : a.ok W' := ⟨h.k, h.list, h.sh.ext x, h.len, h.le, h.cm, fun y hy => (h.rok y hy).ext x⟩
theorem size34 : (Try.prog.info? 34).map (·.size) = some 3 := by kernel_rfl
theorem el22 : Elem Try.prog 22 34 3 40 (.agg #[.int .u8 0, .int .i64 0, .slice none 0 0]) := Elem.mk' Try.underlying22 (by kernel_rfl) rfl (by omega)
theorem c34 : Try.prog.cellsOf 34 = 3 := by kernel_rfl
theorem c38 : Try.prog.cellsOf 38 = 3 := by kernel_rfl
theorem c36 : Try.prog.cellsOf 36 = 1 := by kernel_rfl
theorem c32 : Try.prog.cellsOf 32 = 1 := by kernel_rfl
theorem c5 : Try.prog.cellsOf 5 = 1 := by kernel_rfl
theorem c3 : Try.prog.cellsOf 3 = 1 := by kernel_rfl
section
variable {H : Type} {enc : TypeId × Value → H} {W : World} {base : Nat} {held : Bool}
theorem bytes_cells (fuel : Nat) {v : Value} {d : DataW H} {p : List MemPlace} (h : DataW.trod enc Try.prog W base (fun _ => true) held fuel 36 [v] = some (d, p)) : ∃ (A : Option Addr) (n c : Nat) (bs : List Int), v = .slice A n c ∧ Rd W A n bs ∧ n ≤ c ∧ c ≤ maxLen := by
  have hsl : ∃ A n' cp, v = .slice A n' cp := by
    rcases Go.ChangeShapes.open_ints Try.underlying36 Try.underlying5 (by kernel_rfl) h with ⟨hcs, _⟩ | ⟨x, l, c', zs, hcs, _⟩
    · simp at hcs; exact ⟨_, _, _, hcs⟩
    · simp at hcs; exact ⟨_, _, _, hcs⟩
  obtain ⟨A, n', cp, rfl⟩ := hsl
  obtain ⟨bs, rdi, le, cm⟩ := RdI.open_ (H := H) (enc := enc) (w := W) (base := base) (held := held) (d := d) (p := p) Try.underlying36 Try.underlying5 (by kernel_rfl) ⟨fuel, h⟩
  exact ⟨A, n', cp, bs, rfl, rdi.rd, le, cm⟩
theorem rp_cells (fuel : Nat) (cs : List Value) (x : DataW H × List MemPlace) (hl : cs.length = 3) (hf : DataW.trod enc Try.prog W base (fun _ => true) held fuel 38 cs = some x) : ∃ r : Rp, cs = r.vals ∧ r.ok W := by
  obtain ⟨v0, v1, v2, rfl⟩ : ∃ v0 v1 v2, cs = [v0, v1, v2] := by
    match cs, hl with
    | [a, b, c], _ => exact ⟨a, b, c, rfl⟩
  obtain ⟨xs, n, _, _, _, hlen, hg⟩ := DataW.trod_struct Try.underlying38 hf
  have some_ : ∀ j, j < 3 → ∃ y, xs[j]? = some y := fun j hj => ⟨_, List.getElem?_eq_getElem (by rw [hlen]; simpa using hj)⟩
  obtain ⟨y0, e0⟩ := some_ 0 (by omega)
  obtain ⟨y1, e1⟩ := some_ 1 (by omega)
  obtain ⟨y2, e2⟩ := some_ 2 (by omega)
  have h0 := hg 0 _ rfl
  have h1 := hg 1 _ rfl
  have h2 := hg 2 _ rfl
  simp [Value.cells, c5, c36, e0, e1, e2] at h0 h1 h2
  obtain ⟨x0, q0, _, w0⟩ := DataW.trod_int Try.underlying5 h0
  obtain ⟨x1, q1, _, w1⟩ := DataW.trod_int Try.underlying5 h1
  obtain ⟨A, n', cp, bs, rfl, rd, le, cm⟩ := bytes_cells n h2
  injection q0 with q0
  injection q1 with q1
  subst q0 q1
  exact ⟨⟨x0, x1, A, n', cp, bs⟩, rfl, wf_u8 w0, wf_u8 w1, rd, le, cm⟩
theorem ac_cells (fuel : Nat) (cs : List Value) (x : DataW H × List MemPlace) (hl : cs.length = 3) (hf : DataW.trod enc Try.prog W base (fun _ => true) held fuel 34 cs = some x) : ∃ a : Ac, cs = a.vals ∧ a.ok W := by
  obtain ⟨v0, v1, v2, rfl⟩ : ∃ v0 v1 v2, cs = [v0, v1, v2] := by
    match cs, hl with
    | [a, b, c], _ => exact ⟨a, b, c, rfl⟩
  obtain ⟨xs, n, _, _, _, hlen, hg⟩ := DataW.trod_struct Try.underlying34 hf
  have some_ : ∀ j, j < 3 → ∃ y, xs[j]? = some y := fun j hj => ⟨_, List.getElem?_eq_getElem (by rw [hlen]; simpa using hj)⟩
  obtain ⟨y0, e0⟩ := some_ 0 (by omega)
  obtain ⟨y1, e1⟩ := some_ 1 (by omega)
  obtain ⟨y2, e2⟩ := some_ 2 (by omega)
  have h0 := hg 0 _ rfl
  have h1 := hg 1 _ rfl
  have h2 := hg 2 _ rfl
  simp [Value.cells, c5, c3, c32, e0, e1, e2] at h0 h1 h2
  obtain ⟨x0, q0, _, w0⟩ := DataW.trod_int Try.underlying5 h0
  obtain ⟨x1, q1, _, w1⟩ := DataW.trod_int Try.underlying3 h1
  injection q0 with q0
  injection q1 with q1
  subst q0 q1
  obtain ⟨sA, sn, sc, sl, rfl, s1, s2, s3, s4, s5⟩ := open_field (d := y2.1) (p := y2.2) Try.underlying32 c38 (by omega) rp_len (fun n cs x => rp_cells n cs x) h2
  exact ⟨⟨x0, x1, sA, sn, sc, sl⟩, rfl, wf_u8 w0, wf_i64 w1, s4, s3, s1, s2, s5⟩
theorem open_acts {b0 : Nat} {r : Reach} {v : Value} {d : DataW H} {p : List MemPlace}
    (hv : Value.okWide Try.prog W r b0 22 v) (h : DataW.Trod enc Try.prog W base (fun _ => true) held 22 v d p) :
    ∃ (A : Option Addr) (n c : Nat) (l : List Ac), v = .slice A n c ∧ n ≤ c ∧ c ≤ maxLen ∧ n = l.length ∧ Shows W 3 A n (acs l) ∧ ∀ a ∈ l, a.ok W :=
  open_rows Try.underlying22 c34 (by omega) ac_len (fun n cs x => ac_cells n cs x) hv h
end
end Go.Proofs.Ytdhdkjiphapliaa
