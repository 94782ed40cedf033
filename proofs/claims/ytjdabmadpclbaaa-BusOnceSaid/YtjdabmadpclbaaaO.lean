import Derived.Test.YtjdabmadpclbaaaN
import Derived.OpenShut
set_option linter.unusedVariables false
set_option linter.unusedSimpArgs false
namespace Go.Proofs.Ytjdabmadpclbaaa
open Go.RowKit Go.ChangeShapes Go.WideShapes
theorem c34 : Try.prog.cellsOf 31 = 1 := by kernel_rfl
theorem c4 : Try.prog.cellsOf 4 = 1 := by kernel_rfl
theorem c3 : Try.prog.cellsOf 3 = 1 := by kernel_rfl
theorem c5 : Try.prog.cellsOf 5 = 1 := by kernel_rfl
theorem c35 : Try.prog.cellsOf 32 = 8 := by kernel_rfl
theorem c37 : Try.prog.cellsOf 34 = 11 := by kernel_rfl
theorem list11 {α : Type} : ∀ {l : List α}, l.length = 11 → ∃ x0 x1 x2 x3 x4 x5 x6 x7 x8 x9 xa, l = [x0, x1, x2, x3, x4, x5, x6, x7, x8, x9, xa]
  | [x0, x1, x2, x3, x4, x5, x6, x7, x8, x9, xa], _ => ⟨x0, x1, x2, x3, x4, x5, x6, x7, x8, x9, xa, rfl⟩
theorem frame_raw {H : Type} {enc : TypeId × Value → H} {W : World} {base : Nat} {spare : Nat → Bool} {held : Bool} (fuel : Nat) (cs : List Value) (x : DataW H × List MemPlace) (hl : cs.length = 11) (hf : DataW.trod enc Try.prog W base spare held fuel 34 cs = some x) :
    ∃ (id : Int) (ext : Bool) (len x0 x1 x2 x3 x4 x5 x6 x7 : Int), cs = [.int .u32 id, .bool ext, .int .i64 len, .int .u8 x0, .int .u8 x1, .int .u8 x2, .int .u8 x3, .int .u8 x4, .int .u8 x5, .int .u8 x6, .int .u8 x7] ∧ 0 ≤ id ∧ id < 4294967296 ∧ -9223372036854775808 ≤ len ∧ len < 9223372036854775808 ∧ Byts [x0, x1, x2, x3, x4, x5, x6, x7] := by
  obtain ⟨v0, v1, v2, v3, v4, v5, v6, v7, v8, v9, va, rfl⟩ := list11 hl
  obtain ⟨xs, n, _, _, _, hlen, hg⟩ := DataW.trod_struct Try.underlying34 hf
  have some_ : ∀ j, j < 4 → ∃ y, xs[j]? = some y := fun j hj => ⟨_, List.getElem?_eq_getElem (by rw [hlen]; simpa using hj)⟩
  obtain ⟨y0, e0⟩ := some_ 0 (by omega)
  obtain ⟨y1, e1⟩ := some_ 1 (by omega)
  obtain ⟨y2, e2⟩ := some_ 2 (by omega)
  obtain ⟨y3, e3⟩ := some_ 3 (by omega)
  have h0 := hg 0 _ rfl
  have h1 := hg 1 _ rfl
  have h2 := hg 2 _ rfl
  have h3 := hg 3 _ rfl
  simp [Value.cells, c34, c4, c3, c35, e0, e1, e2, e3] at h0 h1 h2 h3
  obtain ⟨id, q0, _, w0⟩ := DataW.trod_int Try.underlying31 h0
  obtain ⟨ext, q1, _⟩ := DataW.trod_bool Try.underlying4 h1
  obtain ⟨len, q2, _, w2⟩ := DataW.trod_int Try.underlying3 h2
  obtain ⟨zs, m, _, _, _, zl, hz⟩ := DataW.trod_array Try.underlying32 h3
  have z_ : ∀ j (hj : j < 8) (u : Value), [v3, v4, v5, v6, v7, v8, v9, va][j]? = some u → ∃ x, u = .int .u8 x ∧ 0 ≤ x ∧ x < 256 := fun j hj u hu => by
    have := hz j hj
    rw [c5, Nat.mul_one] at this
    have e : (([v3, v4, v5, v6, v7, v8, v9, va] : List Value).drop j).take 1 = [u] := by
      have hj' : j < [v3, v4, v5, v6, v7, v8, v9, va].length := hj
      rw [List.drop_eq_getElem_cons hj', List.take_succ_cons, List.take_zero]
      rw [List.getElem?_eq_getElem hj'] at hu
      injection hu with hu
      rw [hu]
    rw [e, List.getElem?_eq_getElem (by rw [zl]; exact hj)] at this
    obtain ⟨x, qx, _, wx⟩ := DataW.trod_int Try.underlying5 this
    injection qx with qx
    exact ⟨x, qx, (wf_u8 wx).1, (wf_u8 wx).2⟩
  obtain ⟨x0, rfl, l0, m0⟩ := z_ 0 (by omega) _ rfl
  obtain ⟨x1, rfl, l1, m1⟩ := z_ 1 (by omega) _ rfl
  obtain ⟨x2, rfl, l2, m2⟩ := z_ 2 (by omega) _ rfl
  obtain ⟨x3, rfl, l3, m3⟩ := z_ 3 (by omega) _ rfl
  obtain ⟨x4, rfl, l4, m4⟩ := z_ 4 (by omega) _ rfl
  obtain ⟨x5, rfl, l5, m5⟩ := z_ 5 (by omega) _ rfl
  obtain ⟨x6, rfl, l6, m6⟩ := z_ 6 (by omega) _ rfl
  obtain ⟨x7, rfl, l7, m7⟩ := z_ 7 (by omega) _ rfl
  injection q0 with q0
  injection q1 with q1
  injection q2 with q2
  subst q0 q1 q2
  exact ⟨id, ext, len, x0, x1, x2, x3, x4, x5, x6, x7, rfl, (wf_u32 w0).1, (wf_u32 w0).2, (wf_i64 w2).1, (wf_i64 w2).2, by intro b hb; simp at hb; rcases hb with rfl | rfl | rfl | rfl | rfl | rfl | rfl | rfl <;> exact ⟨‹_›, ‹_›⟩⟩
theorem open_frame {H : Type} {enc : TypeId × Value → H} {W : World} {base b0 : Nat} {spare : Nat → Bool} {held : Bool} {r : Reach} {v : Value} {d : DataW H} {p : List MemPlace}
    (hv : Value.okWide Try.prog W r b0 34 v) (h : DataW.Trod enc Try.prog W base spare held 34 v d p) :
    ∃ (id : Int) (ext : Bool) (len x0 x1 x2 x3 x4 x5 x6 x7 : Int), v = .agg #[.int .u32 id, .bool ext, .int .i64 len, .int .u8 x0, .int .u8 x1, .int .u8 x2, .int .u8 x3, .int .u8 x4, .int .u8 x5, .int .u8 x6, .int .u8 x7] ∧ 0 ≤ id ∧ id < 4294967296 ∧ -9223372036854775808 ≤ len ∧ len < 9223372036854775808 ∧ Byts [x0, x1, x2, x3, x4, x5, x6, x7] := by
  obtain ⟨⟨cs⟩, rfl, hsz⟩ := okWide_struct Try.underlying34 hv
  obtain ⟨fuel, hf⟩ := h
  obtain ⟨id, ext, len, x0, x1, x2, x3, x4, x5, x6, x7, h1, hr⟩ := frame_raw fuel cs _ (by simpa [c37] using hsz) hf
  subst h1
  exact ⟨id, ext, len, x0, x1, x2, x3, x4, x5, x6, x7, rfl, hr⟩
end Go.Proofs.Ytjdabmadpclbaaa
