import Derived.Test.YtpjficfmmfdbjaaE
import Derived.OpenShut
set_option linter.unusedVariables false
set_option linter.unusedSimpArgs false
namespace Go.Proofs.Ytpjficfmmfdbjaa
open Go.RowKit Go.ChangeShapes Go.WideShapes
theorem q3 : Try.prog.cellsOf 3 = 1 := by kernel_rfl
theorem q4 : Try.prog.cellsOf 4 = 1 := by kernel_rfl
theorem q5 : Try.prog.cellsOf 5 = 1 := by kernel_rfl
theorem q9 : Try.prog.cellsOf 9 = 1 := by kernel_rfl
theorem q21 : Try.prog.cellsOf 21 = 1 := by kernel_rfl
theorem q22 : Try.prog.cellsOf 22 = 1 := by kernel_rfl
theorem q24 : Try.prog.cellsOf 24 = 8 := by kernel_rfl
theorem list8 {α : Type} : ∀ {l : List α}, l.length = 8 → ∃ x0 x1 x2 x3 x4 x5 x6 x7, l = [x0, x1, x2, x3, x4, x5, x6, x7]
  | [x0, x1, x2, x3, x4, x5, x6, x7], _ => ⟨x0, x1, x2, x3, x4, x5, x6, x7, rfl⟩
theorem open_sym {H : Type} {enc : TypeId × Value → H} {W : World} {base b0 : Nat} {spare : Nat → Bool} {held : Bool} {rr : Reach} {v : Value} {d : DataW H} {p : List MemPlace}
    (hv : Value.okWide Try.prog W rr b0 24 v) (h : DataW.Trod enc Try.prog W base spare held 24 v d p) :
    ∃ (s : ByteArray) (ar aa wd : Int) (bg sg : Bool) (mu ad : Int), v = .agg #[.string s, .int .u8 ar, .int .u32 aa, .int .i64 wd, .bool bg, .bool sg, .int .i32 mu, .int .i32 ad] ∧ s.size ≤ maxLen ∧ (0 ≤ ar ∧ ar < 256) ∧ (0 ≤ aa ∧ aa < 4294967296) ∧ (-9223372036854775808 ≤ wd ∧ wd < 9223372036854775808) ∧ (-2147483648 ≤ mu ∧ mu < 2147483648) ∧ (-2147483648 ≤ ad ∧ ad < 2147483648) := by
  obtain ⟨⟨cs⟩, rfl, hsz⟩ := okWide_struct Try.underlying24 hv
  obtain ⟨v0, v1, v2, v3, v4, v5, v6, v7, rfl⟩ := list8 (l := cs) (by simpa [q24] using hsz)
  obtain ⟨fuel, hf⟩ := h
  obtain ⟨xs, n, _, _, _, hlen, hg⟩ := DataW.trod_struct Try.underlying24 hf
  have some_ : ∀ j, j < 8 → ∃ y, xs[j]? = some y := fun j hj => ⟨_, List.getElem?_eq_getElem (by rw [hlen]; simpa using hj)⟩
  obtain ⟨y0, e0⟩ := some_ 0 (by omega)
  obtain ⟨y1, e1⟩ := some_ 1 (by omega)
  obtain ⟨y2, e2⟩ := some_ 2 (by omega)
  obtain ⟨y3, e3⟩ := some_ 3 (by omega)
  obtain ⟨y4, e4⟩ := some_ 4 (by omega)
  obtain ⟨y5, e5⟩ := some_ 5 (by omega)
  obtain ⟨y6, e6⟩ := some_ 6 (by omega)
  obtain ⟨y7, e7⟩ := some_ 7 (by omega)
  have h0 := hg 0 _ rfl
  have h1 := hg 1 _ rfl
  have h2 := hg 2 _ rfl
  have h3 := hg 3 _ rfl
  have h4 := hg 4 _ rfl
  have h5 := hg 5 _ rfl
  have h6 := hg 6 _ rfl
  have h7 := hg 7 _ rfl
  simp [Value.cells, q3, q4, q5, q9, q21, q22, e0, e1, e2, e3, e4, e5, e6, e7] at h0 h1 h2 h3 h4 h5 h6 h7
  obtain ⟨s, k0, _, hs⟩ := DataW.trod_string Try.underlying9 h0
  obtain ⟨ar, k1, _, w1⟩ := DataW.trod_int Try.underlying5 h1
  obtain ⟨aa, k2, _, w2⟩ := DataW.trod_int Try.underlying22 h2
  obtain ⟨wd, k3, _, w3⟩ := DataW.trod_int Try.underlying3 h3
  obtain ⟨bg, k4, _⟩ := DataW.trod_bool Try.underlying4 h4
  obtain ⟨sg, k5, _⟩ := DataW.trod_bool Try.underlying4 h5
  obtain ⟨mu, k6, _, w6⟩ := DataW.trod_int Try.underlying21 h6
  obtain ⟨ad, k7, _, w7⟩ := DataW.trod_int Try.underlying21 h7
  injection k0 with k0
  injection k1 with k1
  injection k2 with k2
  injection k3 with k3
  injection k4 with k4
  injection k5 with k5
  injection k6 with k6
  injection k7 with k7
  subst k0 k1 k2 k3 k4 k5 k6 k7
  exact ⟨s, ar, aa, wd, bg, sg, mu, ad, rfl, hs, wf_u8 w1, wf_u32 w2, wf_i64 w3, wf_i32 w6, wf_i32 w7⟩
end Go.Proofs.Ytpjficfmmfdbjaa
