import Derived.Test.YtjgmnbfadnlikaaS
import Derived.Test.YtjgmnbfadnlikaaOpen
set_option linter.unusedVariables false
set_option linter.unusedSimpArgs false
namespace Go.Proofs.Ytjgmnbfadnlikaa
open Go.RowKit Go.ChangeShapes Go.WideShapes
structure Ac where
  k : Int
  who : Int
  area : Nat
  at_ : Nat
  n : Int
  m : Int
  A : Option Addr
  bn : Nat
  c : Nat
  bs : List Int
def Ac.vals (a : Ac) : List Value := [.int .u8 a.k, .int .u8 a.who, .int .u8 (a.area : Int), .int .u32 (a.at_ : Int), .int .i64 a.n, .int .i64 a.m, .slice a.A a.bn a.c]
structure Ac.ok (W : World) (a : Ac) : Prop where
  k : 0 ≤ a.k ∧ a.k < 256
  who : 0 ≤ a.who ∧ a.who < 256
  area : a.area < 256
  at_ : a.at_ < 4294967296
  n : -9223372036854775808 ≤ a.n ∧ a.n < 9223372036854775808
  m : -9223372036854775808 ≤ a.m ∧ a.m < 9223372036854775808
  rd : Rd W a.A a.bn a.bs
  le : a.bn ≤ a.c
  cm : a.c ≤ maxLen
theorem ac_len (a : Ac) : a.vals.length = 7 := rfl
theorem ac_one (a : Ac) : ∀ v ∈ a.vals, v.oneCell' = true := by
  intro v hv
  simp [Ac.vals] at hv
  rcases hv with rfl | rfl | rfl | rfl | rfl | rfl | rfl <;> rfl
theorem Ac.ok.ext {W W' : World} {a : Ac} (h : a.ok W) (x : Ext W W') : a.ok W' := ⟨h.k, h.who, h.area, h.at_, h.n, h.m, h.rd.ext x, h.le, h.cm⟩
theorem size39 : (Try.prog.info? 39).map (·.size) = some 7 := by kernel_rfl
theorem c39 : Try.prog.cellsOf 39 = 7 := by kernel_rfl
theorem c5 : Try.prog.cellsOf 5 = 1 := by kernel_rfl
theorem c3 : Try.prog.cellsOf 3 = 1 := by kernel_rfl
theorem c36 : Try.prog.cellsOf 36 = 1 := by kernel_rfl
theorem c37 : Try.prog.cellsOf 37 = 1 := by kernel_rfl
theorem c54 : Try.prog.cellsOf 54 = 2 := by kernel_rfl
theorem c25 : Try.prog.cellsOf 25 = 3 := by kernel_rfl
theorem c22 : Try.prog.cellsOf 22 = 1 := by kernel_rfl
theorem c23 : Try.prog.cellsOf 23 = 1 := by kernel_rfl
section
variable {H : Type} {enc : TypeId × Value → H} {W : World} {base : Nat} {held : Bool}
theorem bytes_cells (fuel : Nat) {v : Value} {d : DataW H} {p : List MemPlace} (h : DataW.trod enc Try.prog W base (fun _ => true) held fuel 37 [v] = some (d, p)) : ∃ (A : Option Addr) (n c : Nat) (bs : List Int), v = .slice A n c ∧ Rd W A n bs ∧ n ≤ c ∧ c ≤ maxLen := by
  have hsl : ∃ A n' cp, v = .slice A n' cp := by
    rcases Go.ChangeShapes.open_ints Try.underlying37 Try.underlying5 (by kernel_rfl) h with ⟨hcs, _⟩ | ⟨x, l, c', zs, hcs, _⟩
    · simp at hcs; exact ⟨_, _, _, hcs⟩
    · simp at hcs; exact ⟨_, _, _, hcs⟩
  obtain ⟨A, n', cp, rfl⟩ := hsl
  obtain ⟨bs, rdi, le, cm⟩ := RdI.open_ (H := H) (enc := enc) (w := W) (base := base) (held := held) (d := d) (p := p) Try.underlying37 Try.underlying5 (by kernel_rfl) ⟨fuel, h⟩
  exact ⟨A, n', cp, bs, rfl, rdi.rd, le, cm⟩
theorem ac_cells (fuel : Nat) (cs : List Value) (x : DataW H × List MemPlace) (hl : cs.length = 7) (hf : DataW.trod enc Try.prog W base (fun _ => true) held fuel 39 cs = some x) : ∃ a : Ac, cs = a.vals ∧ a.ok W := by
  obtain ⟨v0, v1, v2, v3, v4, v5, v6, rfl⟩ : ∃ v0 v1 v2 v3 v4 v5 v6, cs = [v0, v1, v2, v3, v4, v5, v6] := by
    match cs, hl with
    | [a, b, c, d, e, f, g], _ => exact ⟨a, b, c, d, e, f, g, rfl⟩
  obtain ⟨xs, n, _, _, _, hlen, hg⟩ := DataW.trod_struct Try.underlying39 hf
  have some_ : ∀ j, j < 7 → ∃ y, xs[j]? = some y := fun j hj => ⟨_, List.getElem?_eq_getElem (by rw [hlen]; simpa using hj)⟩
  obtain ⟨y0, e0⟩ := some_ 0 (by omega)
  obtain ⟨y1, e1⟩ := some_ 1 (by omega)
  obtain ⟨y2, e2⟩ := some_ 2 (by omega)
  obtain ⟨y3, e3⟩ := some_ 3 (by omega)
  obtain ⟨y4, e4⟩ := some_ 4 (by omega)
  obtain ⟨y5, e5⟩ := some_ 5 (by omega)
  obtain ⟨y6, e6⟩ := some_ 6 (by omega)
  have h0 := hg 0 _ rfl
  have h1 := hg 1 _ rfl
  have h2 := hg 2 _ rfl
  have h3 := hg 3 _ rfl
  have h4 := hg 4 _ rfl
  have h5 := hg 5 _ rfl
  have h6 := hg 6 _ rfl
  simp [Value.cells, c5, c3, c36, c37, e0, e1, e2, e3, e4, e5, e6] at h0 h1 h2 h3 h4 h5 h6
  obtain ⟨x0, q0, _, w0⟩ := DataW.trod_int Try.underlying5 h0
  obtain ⟨x1, q1, _, w1⟩ := DataW.trod_int Try.underlying5 h1
  obtain ⟨x2, q2, _, w2⟩ := DataW.trod_int Try.underlying5 h2
  obtain ⟨x3, q3, _, w3⟩ := DataW.trod_int Try.underlying36 h3
  obtain ⟨x4, q4, _, w4⟩ := DataW.trod_int Try.underlying3 h4
  obtain ⟨x5, q5, _, w5⟩ := DataW.trod_int Try.underlying3 h5
  obtain ⟨A, n', cp, bs, rfl, rd, le, cm⟩ := bytes_cells n h6
  injection q0 with q0
  injection q1 with q1
  injection q2 with q2
  injection q3 with q3
  injection q4 with q4
  injection q5 with q5
  subst q0 q1 q2 q3 q4 q5
  obtain ⟨ar, rfl⟩ := Int.eq_ofNat_of_zero_le (wf_u8 w2).1
  obtain ⟨at_, rfl⟩ := Int.eq_ofNat_of_zero_le (wf_u32 w3).1
  exact ⟨⟨x0, x1, ar, at_, x4, x5, A, n', cp, bs⟩, rfl, ⟨wf_u8 w0, wf_u8 w1, by have h : ((ar : Nat) : Int) < 256 := (wf_u8 w2).2; show ar < 256; omega, by have h : ((at_ : Nat) : Int) < 4294967296 := (wf_u32 w3).2; show at_ < 4294967296; omega, wf_i64 w4, wf_i64 w5, rd, le, cm⟩⟩
theorem open_acts {b0 : Nat} {r : Reach} {v : Value} {d : DataW H} {p : List MemPlace}
    (hv : Value.okWide Try.prog W r b0 26 v) (h : DataW.Trod enc Try.prog W base (fun _ => true) held 26 v d p) :
    ∃ (A : Option Addr) (n c : Nat) (l : List Ac), v = .slice A n c ∧ n ≤ c ∧ c ≤ maxLen ∧ n = l.length ∧ Shows W 7 A n (l.flatMap Ac.vals) ∧ ∀ a ∈ l, a.ok W :=
  open_rows Try.underlying26 c39 (by omega) ac_len (fun n cs x => ac_cells n cs x) hv h
theorem open_act {b0 : Nat} {r : Reach} {v : Value} {d : DataW H} {p : List MemPlace}
    (hv : Value.okWide Try.prog W r b0 39 v) (h : DataW.Trod enc Try.prog W base (fun _ => true) held 39 v d p) :
    ∃ a : Ac, v = .agg a.vals.toArray ∧ a.ok W := by
  obtain ⟨⟨cs⟩, rfl, hsz⟩ := okWide_struct Try.underlying39 hv
  obtain ⟨fuel, hf⟩ := h
  obtain ⟨a, rfl, ok⟩ := ac_cells (x := (d, p)) fuel cs (by simpa [c39] using hsz) hf
  exact ⟨a, rfl, ok⟩
theorem sm_cells (fuel : Nat) (cs : List Value) (x : DataW H × List MemPlace) (hl : cs.length = 2) (hf : DataW.trod enc Try.prog W base (fun _ => true) held fuel 54 cs = some x) : ∃ s : SM, cs = s.vals ∧ (-9223372036854775808 ≤ s.len ∧ s.len < 9223372036854775808) ∧ (-9223372036854775808 ≤ s.pages ∧ s.pages < 9223372036854775808) := by
  obtain ⟨v0, v1, rfl⟩ : ∃ v0 v1, cs = [v0, v1] := by
    match cs, hl with
    | [a, b], _ => exact ⟨a, b, rfl⟩
  obtain ⟨xs, n, _, _, _, hlen, hg⟩ := DataW.trod_struct Try.underlying54 hf
  have some_ : ∀ j, j < 2 → ∃ y, xs[j]? = some y := fun j hj => ⟨_, List.getElem?_eq_getElem (by rw [hlen]; simpa using hj)⟩
  obtain ⟨y0, e0⟩ := some_ 0 (by omega)
  obtain ⟨y1, e1⟩ := some_ 1 (by omega)
  have h0 := hg 0 _ rfl
  have h1 := hg 1 _ rfl
  simp [Value.cells, c3, e0, e1] at h0 h1
  obtain ⟨x0, q0, _, w0⟩ := DataW.trod_int Try.underlying3 h0
  obtain ⟨x1, q1, _, w1⟩ := DataW.trod_int Try.underlying3 h1
  injection q0 with q0
  injection q1 with q1
  subst q0 q1
  exact ⟨⟨x0, x1⟩, rfl, wf_i64 w0, wf_i64 w1⟩
theorem fb_cells (fuel : Nat) (cs : List Value) (x : DataW H × List MemPlace) (hl : cs.length = 1) (hf : DataW.trod enc Try.prog W base (fun _ => true) held fuel 37 cs = some x) : ∃ f : FB, cs = f.vals ∧ Rd W f.A f.n f.bs ∧ f.n ≤ f.c ∧ f.c ≤ maxLen := by
  obtain ⟨v0, rfl⟩ : ∃ v0, cs = [v0] := by
    match cs, hl with
    | [a], _ => exact ⟨a, rfl⟩
  obtain ⟨A, n, c, bs, rfl, h1, h2, h3⟩ := bytes_cells (d := x.1) (p := x.2) fuel hf
  exact ⟨⟨A, n, c, bs⟩, rfl, h1, h2, h3⟩
theorem map_cells (fuel : Nat) (cs : List Value) (x : DataW H × List MemPlace) (hl : cs.length = 3) (hf : DataW.trod enc Try.prog W base (fun _ => true) held fuel 25 cs = some x) :
    ∃ (m : MP) (sA fA : Option Addr) (sc fc : Nat), cs = [.int .i64 m.ram, .slice sA m.segs.length sc, .slice fA m.flash.length fc] ∧ MpR W m sA fA sc fc ∧ (-9223372036854775808 ≤ m.ram ∧ m.ram < 9223372036854775808) ∧ ∀ s ∈ m.segs, (-9223372036854775808 ≤ s.len ∧ s.len < 9223372036854775808) ∧ (-9223372036854775808 ≤ s.pages ∧ s.pages < 9223372036854775808) := by
  obtain ⟨v0, v1, v2, rfl⟩ : ∃ v0 v1 v2, cs = [v0, v1, v2] := by
    match cs, hl with
    | [a, b, c], _ => exact ⟨a, b, c, rfl⟩
  obtain ⟨xs, n, _, _, _, hlen, hg⟩ := DataW.trod_struct Try.underlying25 hf
  have some_ : ∀ j, j < 3 → ∃ y, xs[j]? = some y := fun j hj => ⟨_, List.getElem?_eq_getElem (by rw [hlen]; simpa using hj)⟩
  obtain ⟨y0, e0⟩ := some_ 0 (by omega)
  obtain ⟨y1, e1⟩ := some_ 1 (by omega)
  obtain ⟨y2, e2⟩ := some_ 2 (by omega)
  have h0 := hg 0 _ rfl
  have h1 := hg 1 _ rfl
  have h2 := hg 2 _ rfl
  simp [Value.cells, c3, c22, c23, e0, e1, e2] at h0 h1 h2
  obtain ⟨x0, q0, _, w0⟩ := DataW.trod_int Try.underlying3 h0
  injection q0 with q0
  subst q0
  obtain ⟨sA, sn, sc, sl, rfl, s1, s2, s3, s4, s5⟩ := open_field (d := y1.1) (p := y1.2) Try.underlying22 c54 (by omega) sm_len (fun n cs x => sm_cells n cs x) h1
  obtain ⟨fA, fn, fc, fl, rfl, f1, f2, f3, f4, f5⟩ := open_field (d := y2.1) (p := y2.2) Try.underlying23 c37 (by omega) fb_len (fun n cs x => fb_cells n cs x) h2
  subst s3 f3
  exact ⟨⟨x0, sl, fl⟩, sA, fA, sc, fc, rfl, ⟨s4, f4, f5, ⟨s1, s2⟩, ⟨f1, f2⟩⟩, wf_i64 w0, s5⟩
theorem open_map {b0 : Nat} {r : Reach} {v : Value} {d : DataW H} {p : List MemPlace}
    (hv : Value.okWide Try.prog W r b0 25 v) (h : DataW.Trod enc Try.prog W base (fun _ => true) held 25 v d p) :
    ∃ (m : MP) (sA fA : Option Addr) (sc fc : Nat), v = .agg #[.int .i64 m.ram, .slice sA m.segs.length sc, .slice fA m.flash.length fc] ∧ MpR W m sA fA sc fc ∧ (-9223372036854775808 ≤ m.ram ∧ m.ram < 9223372036854775808) ∧ ∀ s ∈ m.segs, (-9223372036854775808 ≤ s.len ∧ s.len < 9223372036854775808) ∧ (-9223372036854775808 ≤ s.pages ∧ s.pages < 9223372036854775808) := by
  obtain ⟨⟨cs⟩, rfl, hsz⟩ := okWide_struct Try.underlying25 hv
  obtain ⟨fuel, hf⟩ := h
  obtain ⟨m, sA, fA, sc, fc, rfl, h1⟩ := map_cells (x := (d, p)) fuel cs (by simpa [c25] using hsz) hf
  exact ⟨m, sA, fA, sc, fc, rfl, h1⟩
end
end Go.Proofs.Ytjgmnbfadnlikaa
