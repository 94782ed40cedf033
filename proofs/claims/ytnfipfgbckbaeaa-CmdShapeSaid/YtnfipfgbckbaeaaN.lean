import Derived.Test.YtnfipfgbckbaeaaG
import Derived.OpenShut
set_option linter.unusedVariables false
namespace Go.Proofs.Ytnfipfgbckbaeaa
open Go.RowKit Go.ChangeShapes Go.WideShapes
theorem q5 : Try.prog.cellsOf 5 = 1 := by kernel_rfl
theorem q22 : Try.prog.cellsOf 22 = 5 := by kernel_rfl
theorem q23 : Try.prog.cellsOf 23 = 1 := by kernel_rfl
theorem q24 : Try.prog.cellsOf 24 = 1 := by kernel_rfl
theorem q26 : Try.prog.cellsOf 26 = 8 := by kernel_rfl
theorem list8 {α : Type} : ∀ {l : List α}, l.length = 8 → ∃ x0 x1 x2 x3 x4 x5 x6 x7, l = [x0, x1, x2, x3, x4, x5, x6, x7]
  | [x0, x1, x2, x3, x4, x5, x6, x7], _ => ⟨x0, x1, x2, x3, x4, x5, x6, x7, rfl⟩
theorem open_cmd {H : Type} {enc : TypeId × Value → H} {W : World} {base b0 : Nat} {held : Bool} {rr : Reach} {v : Value} {d : DataW H} {p : List MemPlace}
    (hv : Value.okWide Try.prog W rr b0 26 v) (h : DataW.Trod enc Try.prog W base (fun _ => true) held 26 v d p) :
    ∃ (c a0 a1 a2 a3 a4 Wn : Int) (A : Option Addr) (n cp : Nat) (bs : List Int), v = .agg #[.int .u8 c, .int .u8 a0, .int .u8 a1, .int .u8 a2, .int .u8 a3, .int .u8 a4, .int .u32 Wn, .slice A n cp] ∧ 0 ≤ c ∧ c < 256 ∧ Byts [a0, a1, a2, a3, a4] ∧ 0 ≤ Wn ∧ Wn < 4294967296 ∧ Rd W A n bs ∧ n ≤ cp ∧ cp ≤ maxLen := by
  obtain ⟨⟨cs⟩, rfl, hsz⟩ := okWide_struct Try.underlying26 hv
  obtain ⟨v0, v1, v2, v3, v4, v5, v6, v7, rfl⟩ := list8 (l := cs) (by simpa [q26] using hsz)
  obtain ⟨fuel, hf⟩ := h
  obtain ⟨xs, n, _, _, _, hlen, hg⟩ := DataW.trod_struct Try.underlying26 hf
  have some_ : ∀ j, j < 4 → ∃ y, xs[j]? = some y := fun j hj => ⟨_, List.getElem?_eq_getElem (by rw [hlen]; simpa using hj)⟩
  obtain ⟨y0, e0⟩ := some_ 0 (by omega)
  obtain ⟨y1, e1⟩ := some_ 1 (by omega)
  obtain ⟨y2, e2⟩ := some_ 2 (by omega)
  obtain ⟨y3, e3⟩ := some_ 3 (by omega)
  have h0 := hg 0 _ rfl
  have h1 := hg 1 _ rfl
  have h2 := hg 2 _ rfl
  have h3 := hg 3 _ rfl
  simp [Value.cells, q5, q22, q23, q24, e0, e1, e2, e3] at h0 h1 h2 h3
  obtain ⟨c, k0, _, w0⟩ := DataW.trod_int Try.underlying5 h0
  obtain ⟨Wn, k2, _, w2⟩ := DataW.trod_int Try.underlying23 h2
  obtain ⟨zs, m, _, _, _, zl, hz⟩ := DataW.trod_array Try.underlying22 h1
  have z_ : ∀ j (hj : j < 5) (u : Value), [v1, v2, v3, v4, v5][j]? = some u → ∃ x, u = .int .u8 x ∧ 0 ≤ x ∧ x < 256 := fun j hj u hu => by
    have := hz j hj
    rw [q5, Nat.mul_one] at this
    have e : (([v1, v2, v3, v4, v5] : List Value).drop j).take 1 = [u] := by
      have hj' : j < [v1, v2, v3, v4, v5].length := hj
      rw [List.drop_eq_getElem_cons hj', List.take_succ_cons, List.take_zero]
      rw [List.getElem?_eq_getElem hj'] at hu
      injection hu with hu
      rw [hu]
    rw [e, List.getElem?_eq_getElem (by rw [zl]; exact hj)] at this
    obtain ⟨x, qx, _, wx⟩ := DataW.trod_int Try.underlying5 this
    injection qx with qx
    exact ⟨x, qx, (wf_u8 wx).1, (wf_u8 wx).2⟩
  obtain ⟨a0, rfl, l0, m0⟩ := z_ 0 (by omega) _ rfl
  obtain ⟨a1, rfl, l1, m1⟩ := z_ 1 (by omega) _ rfl
  obtain ⟨a2, rfl, l2, m2⟩ := z_ 2 (by omega) _ rfl
  obtain ⟨a3, rfl, l3, m3⟩ := z_ 3 (by omega) _ rfl
  obtain ⟨a4, rfl, l4, m4⟩ := z_ 4 (by omega) _ rfl
  injection k0 with k0
  injection k2 with k2
  subst k0 k2
  have hsl : ∃ A n' cp, v7 = .slice A n' cp := by
    rcases Go.ChangeShapes.open_ints Try.underlying24 Try.underlying5 (by kernel_rfl) h3 with ⟨hcs, _⟩ | ⟨x, l, c', zs, hcs, _⟩
    · simp at hcs; exact ⟨_, _, _, hcs⟩
    · simp at hcs; exact ⟨_, _, _, hcs⟩
  obtain ⟨A, n', cp, rfl⟩ := hsl
  obtain ⟨bs, rdi, le, cm⟩ := RdI.open_ (H := H) (enc := enc) (w := W) (base := base) (held := held) (d := y3.1) (p := y3.2) Try.underlying24 Try.underlying5 (by kernel_rfl) ⟨n, h3⟩
  exact ⟨c, a0, a1, a2, a3, a4, Wn, A, n', cp, bs, rfl, (wf_u8 w0).1, (wf_u8 w0).2, by intro b hb; simp at hb; rcases hb with rfl | rfl | rfl | rfl | rfl <;> exact ⟨‹_›, ‹_›⟩, (wf_u32 w2).1, (wf_u32 w2).2, rdi.rd, le, cm⟩
end Go.Proofs.Ytnfipfgbckbaeaa
