import Derived.Test.YtjcacemijnlmhaaT
import Derived.OpenShut
set_option linter.unusedVariables false
namespace Go.Proofs.Ytjcacemijnlmhaa
open Go.RowKit Go.ChangeShapes Go.WideShapes
theorem c22 : Try.prog.cellsOf 22 = 1 := by kernel_rfl
theorem c5 : Try.prog.cellsOf 5 = 1 := by kernel_rfl
theorem c24 : Try.prog.cellsOf 24 = 3 := by kernel_rfl
theorem list3 {α : Type} : ∀ {l : List α}, l.length = 3 → ∃ x0 x1 x2, l = [x0, x1, x2]
  | [x0, x1, x2], _ => ⟨x0, x1, x2, rfl⟩
theorem open_rep {H : Type} {enc : TypeId × Value → H} {W : World} {base b0 : Nat} {held : Bool} {r : Reach} {v : Value} {d : DataW H} {p : List MemPlace}
    (hv : Value.okWide Try.prog W r b0 24 v) (h : DataW.Trod enc Try.prog W base (fun _ => true) held 24 v d p) :
    ∃ (kind code : Int) (A : Option Addr) (n c : Nat) (bs : List Int), v = .agg #[.int .u8 kind, .int .u8 code, .slice A n c] ∧ 0 ≤ kind ∧ kind < 256 ∧ 0 ≤ code ∧ code < 256 ∧ Rd W A n bs ∧ n ≤ c ∧ c ≤ maxLen := by
  obtain ⟨⟨cs⟩, rfl, hsz⟩ := okWide_struct Try.underlying24 hv
  obtain ⟨v0, v1, v2, rfl⟩ := list3 (l := cs) (by simpa [c24] using hsz)
  obtain ⟨fuel, hf⟩ := h
  obtain ⟨xs, n, _, _, _, hlen, hg⟩ := DataW.trod_struct Try.underlying24 hf
  have some_ : ∀ j, j < 3 → ∃ y, xs[j]? = some y := fun j hj => ⟨_, List.getElem?_eq_getElem (by rw [hlen]; simpa using hj)⟩
  obtain ⟨y0, e0⟩ := some_ 0 (by omega)
  obtain ⟨y1, e1⟩ := some_ 1 (by omega)
  obtain ⟨y2, e2⟩ := some_ 2 (by omega)
  have h0 := hg 0 _ rfl
  have h1 := hg 1 _ rfl
  have h2 := hg 2 _ rfl
  simp [Value.cells, c22, c5, e0, e1, e2] at h0 h1 h2
  obtain ⟨x0, q0, _, w0⟩ := DataW.trod_int Try.underlying5 h0
  obtain ⟨x1, q1, _, w1⟩ := DataW.trod_int Try.underlying5 h1
  injection q0 with q0
  injection q1 with q1
  subst q0 q1
  rcases Go.ChangeShapes.open_ints Try.underlying22 Try.underlying5 (by kernel_rfl) h2 with ⟨hcs, _⟩ | ⟨x, l, c', zs, hcs, _, hl, hm, hz, _, hcell, hwz⟩
  · injection hcs with hcs
    subst hcs
    exact ⟨x0, x1, none, 0, 0, [], rfl, (wf_u8 w0).1, (wf_u8 w0).2, (wf_u8 w1).1, (wf_u8 w1).2, Rd.nil, Nat.le_refl _, le_max (by omega)⟩
  · injection hcs with hcs
    subst hcs
    obtain ⟨bs, hi, l1, l2⟩ := RdI.open_ (d := y2.1) (p := y2.2) Try.underlying22 Try.underlying5 c5 ⟨n, h2⟩
    exact ⟨x0, x1, some x, l, c', bs, rfl, (wf_u8 w0).1, (wf_u8 w0).2, (wf_u8 w1).1, (wf_u8 w1).2, hi.rd, l1, l2⟩
end Go.Proofs.Ytjcacemijnlmhaa
