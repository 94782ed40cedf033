import Derived.Test.YtjdabmadpclbaaaBJ
import Derived.Laws.IdiomArrays
set_option linter.unusedVariables false
set_option linter.unusedSimpArgs false
namespace Go.Proofs.Ytjdabmadpclbaaa
open Go.RowKit Go.ChangeShapes Go.WideShapes
/-- acts. -/
structure A3 where
  kind : Int
  who : Int
  f : Fr
def A3.vals (a : A3) : List Value := .int .u8 a.kind :: .int .u8 a.who :: a.f.vals
def A3.ok (a : A3) : Prop := (0 ≤ a.kind ∧ a.kind < 256) ∧ (0 ≤ a.who ∧ a.who < 256) ∧ a.f.ok
def a3s (l : List A3) : List Value := l.flatMap A3.vals
theorem a3_len (a : A3) : a.vals.length = 13 := rfl
theorem a3_one (a : A3) : ∀ v ∈ a.vals, v.oneCell' = true := by
  intro v hv
  rcases List.mem_cons.1 hv with rfl | hv
  · rfl
  · rcases List.mem_cons.1 hv with rfl | hv
    · rfl
    · exact fr_one a.f v hv
theorem size36 : (Try.prog.info? 36).map (·.size) = some 13 := by kernel_rfl
theorem c36 : Try.prog.cellsOf 36 = 13 := by kernel_rfl
theorem a3_cells {H : Type} {enc : TypeId × Value → H} {W : World} {base : Nat} {spare : Nat → Bool} {held : Bool} (fuel : Nat) (cs : List Value) (x : DataW H × List MemPlace) (hl : cs.length = 13) (hf : DataW.trod enc Try.prog W base spare held fuel 36 cs = some x) : ∃ a : A3, cs = a.vals ∧ a.ok := by
  obtain ⟨v0, v1, r, rfl⟩ : ∃ v0 v1 r, cs = v0 :: v1 :: r := by
    match cs, hl with
    | a :: b :: r, _ => exact ⟨a, b, r, rfl⟩
  have hr : r.length = 11 := by simpa using hl
  obtain ⟨xs, n, _, _, _, hlen, hg⟩ := DataW.trod_struct Try.underlying36 hf
  have some_ : ∀ j, j < 3 → ∃ y, xs[j]? = some y := fun j hj => ⟨_, List.getElem?_eq_getElem (by rw [hlen]; simpa using hj)⟩
  obtain ⟨y0, e0⟩ := some_ 0 (by omega)
  obtain ⟨y1, e1⟩ := some_ 1 (by omega)
  obtain ⟨y2, e2⟩ := some_ 2 (by omega)
  have h0 := hg 0 _ rfl
  have h1 := hg 1 _ rfl
  have h2 := hg 2 _ rfl
  simp [Value.cells, c5, c37, e0, e1, e2] at h0 h1 h2
  rw [List.take_of_length_le (by omega)] at h2
  obtain ⟨a, q0, _, w0⟩ := DataW.trod_int Try.underlying5 h0
  obtain ⟨b, q1, _, w1⟩ := DataW.trod_int Try.underlying5 h1
  obtain ⟨f, rfl, hfo⟩ := fr_cells _ _ _ hr h2
  injection q0 with q0
  injection q1 with q1
  subst q0 q1
  exact ⟨⟨a, b, f⟩, rfl, wf_u8 w0, wf_u8 w1, hfo⟩
theorem open_a3s {H : Type} {enc : TypeId × Value → H} {W : World} {base b0 : Nat} {spare : Nat → Bool} {held : Bool} {r : Reach} {v : Value} {d : DataW H} {p : List MemPlace}
    (hv : Value.okWide Try.prog W r b0 24 v) (h : DataW.Trod enc Try.prog W base spare held 24 v d p) :
    ∃ (A : Option Addr) (n c : Nat) (l : List A3), v = .slice A n c ∧ n ≤ c ∧ c ≤ maxLen ∧ n = l.length ∧ Shows W 13 A n (a3s l) ∧ ∀ a ∈ l, a.ok :=
  open_rows (vals := A3.vals) (ok := A3.ok) Try.underlying24 c36 (by omega) a3_len (fun n cs x h1 h2 => a3_cells n cs x h1 h2) hv h
theorem open_rowsC {α : Type} {H : Type} {enc : TypeId × Value → H} {W : World} {base : Nat} {spare : Nat → Bool} {held : Bool} {v : Value} {fuel : Nat} {y : DataW H × List MemPlace} {t e : TypeId} {k : Nat} {vals : α → List Value} {ok : α → Prop}
    (ht : Try.prog.underlying t = some (.slice e)) (hk : Try.prog.cellsOf e = k) (k0 : 0 < k) (hlen : ∀ a, (vals a).length = k)
    (elem : ∀ n cs x, cs.length = k → DataW.trod enc Try.prog W base spare held n e cs = some x → ∃ a, cs = vals a ∧ ok a)
    (hf : DataW.trod enc Try.prog W base spare held fuel t [v] = some y) :
    ∃ (A : Option Addr) (n c : Nat) (l : List α), v = .slice A n c ∧ n ≤ c ∧ c ≤ maxLen ∧ n = l.length ∧ Shows W k A n (l.flatMap vals) ∧ ∀ a ∈ l, ok a := by
  rcases Deep.open_slice ht hf with ⟨h0, _⟩ | ⟨a, len, cap, m, n', D, Pl, hcs, hb, hl, hm, hmm, _, hi⟩
  · injection h0 with h0 _
    exact ⟨none, 0, 0, [], h0, Nat.le_refl _, by simp, rfl, Shows.nil, by simp⟩
  · injection hcs with hcs _
    have hlm : len ≤ m := by rw [hmm]; split <;> omega
    obtain ⟨l, hll, hr⟩ := exists_list (R := fun i x => (∀ j u, (vals x)[j]? = some u → W.cell? (a.add (i * k + j)) = some u) ∧ ok x) len (fun i hin => by
      obtain ⟨cs', hc, ht'⟩ := hi i (by omega)
      rw [hk] at hc
      obtain ⟨_, hcl, hat⟩ := World.cells?_some hc
      obtain ⟨x, rfl, hx⟩ := elem _ _ _ hcl ht'
      refine ⟨x, fun j u hj => ?_, hx⟩
      have hjk : j < k := by rw [← hlen x]; exact (List.getElem?_eq_some_iff.1 hj).1
      rw [← add_add', hat j hjk, hj])
    refine ⟨_, _, _, l, hcs, hl, hm, hll.symm, ⟨by rw [flat_len hlen, hll], fun h0 => ⟨a, rfl, ?_, fun j u hu => ?_⟩⟩, fun x hx => ?_⟩
    · obtain ⟨x, hx⟩ : ∃ x, l[0]? = some x := ⟨_, List.getElem?_eq_getElem (by omega)⟩
      have hv0 : 0 < (vals x).length := by rw [hlen]; exact k0
      have := (hr 0 x hx).1 0 _ (List.getElem?_eq_getElem hv0)
      have := World.block_lt_of_cell? W _ this
      rwa [block_add] at this
    · obtain ⟨q, r, x, rfl, h2, h3, h4⟩ := flat_get hlen l j u hu
      exact (hr q x h3).1 r u h4
    · obtain ⟨q, hq, rfl⟩ := List.getElem_of_mem hx
      exact (hr q _ (List.getElem?_eq_getElem hq)).2
theorem okWide_array {W : World} {r : Reach} {base n : Nat} {t e : TypeId} {v : Value} (ht : Try.prog.underlying t = some (.array n e)) (h : Value.okWide Try.prog W r base t v) : ∃ cs, v = .agg cs ∧ cs.size = Try.prog.cellsOf t := by
  simp only [Value.okWide, ht] at h
  obtain ⟨cs, h1, h2, _⟩ := h
  exact ⟨cs, h1, h2⟩
theorem c23 : Try.prog.cellsOf 23 = 3 := by kernel_rfl
theorem c55 : Try.prog.cellsOf 55 = 3 := by kernel_rfl
theorem c22 : Try.prog.cellsOf 22 = 1 := by kernel_rfl
theorem c51 : Try.prog.cellsOf 51 = 1 := by kernel_rfl
theorem open_fil3 {H : Type} {enc : TypeId × Value → H} {W : World} {base b0 : Nat} {spare : Nat → Bool} {held : Bool} {r : Reach} {v : Value} {d : DataW H} {p : List MemPlace}
    (hv : Value.okWide Try.prog W r b0 23 v) (h : DataW.Trod enc Try.prog W base spare held 23 v d p) :
    ∃ (A0 A1 A2 : Option Addr) (n0 n1 n2 c0 c1 c2 : Nat) (l0 l1 l2 : List Fi), v = .agg #[.slice A0 n0 c0, .slice A1 n1 c1, .slice A2 n2 c2] ∧ (n0 ≤ c0 ∧ n1 ≤ c1 ∧ n2 ≤ c2) ∧ (c0 ≤ maxLen ∧ c1 ≤ maxLen ∧ c2 ≤ maxLen) ∧ (n0 = l0.length ∧ n1 = l1.length ∧ n2 = l2.length) ∧ (Shows W 3 A0 n0 (fis l0) ∧ Shows W 3 A1 n1 (fis l1) ∧ Shows W 3 A2 n2 (fis l2)) ∧ (∀ a ∈ l0, a.ok) ∧ (∀ a ∈ l1, a.ok) ∧ (∀ a ∈ l2, a.ok) := by
  obtain ⟨⟨cs⟩, rfl, hsz⟩ := okWide_array Try.underlying23 hv
  obtain ⟨fuel, hf⟩ := h
  obtain ⟨v0, v1, v2, rfl⟩ : ∃ v0 v1 v2, cs = [v0, v1, v2] := by
    have hl : cs.length = 3 := by simpa [c23] using hsz
    match cs, hl with
    | [a, b, c], _ => exact ⟨a, b, c, rfl⟩
  obtain ⟨y0, y1, y2, n, _, t0, t1, t2⟩ := trod_array3 Try.underlying23 c22 hf
  obtain ⟨A0, n0, c0, l0, rfl, a0, b0', d0', e0, f0⟩ := open_rowsC (vals := Fi.vals) (ok := Fi.ok) Try.underlying22 c53 (by omega) (fun _ => rfl) (fun n cs x h1 h2 => fi_cells n cs x h1 h2) t0
  obtain ⟨A1, n1, c1, l1, rfl, a1, b1, d1, e1, f1⟩ := open_rowsC (vals := Fi.vals) (ok := Fi.ok) Try.underlying22 c53 (by omega) (fun _ => rfl) (fun n cs x h1 h2 => fi_cells n cs x h1 h2) t1
  obtain ⟨A2, n2, c2, l2, rfl, a2, b2, d2, e2, f2⟩ := open_rowsC (vals := Fi.vals) (ok := Fi.ok) Try.underlying22 c53 (by omega) (fun _ => rfl) (fun n cs x h1 h2 => fi_cells n cs x h1 h2) t2
  exact ⟨A0, A1, A2, n0, n1, n2, c0, c1, c2, l0, l1, l2, rfl, ⟨a0, a1, a2⟩, ⟨b0', b1, b2⟩, ⟨d0', d1, d2⟩, ⟨e0, e1, e2⟩, f0, f1, f2⟩
theorem open_frs3 {H : Type} {enc : TypeId × Value → H} {W : World} {base b0 : Nat} {spare : Nat → Bool} {held : Bool} {r : Reach} {v : Value} {d : DataW H} {p : List MemPlace}
    (hv : Value.okWide Try.prog W r b0 55 v) (h : DataW.Trod enc Try.prog W base spare held 55 v d p) :
    ∃ (A0 A1 A2 : Option Addr) (n0 n1 n2 c0 c1 c2 : Nat) (l0 l1 l2 : List Fr), v = .agg #[.slice A0 n0 c0, .slice A1 n1 c1, .slice A2 n2 c2] ∧ (n0 ≤ c0 ∧ n1 ≤ c1 ∧ n2 ≤ c2) ∧ (c0 ≤ maxLen ∧ c1 ≤ maxLen ∧ c2 ≤ maxLen) ∧ (n0 = l0.length ∧ n1 = l1.length ∧ n2 = l2.length) ∧ (Shows W 11 A0 n0 (frs l0) ∧ Shows W 11 A1 n1 (frs l1) ∧ Shows W 11 A2 n2 (frs l2)) ∧ (∀ a ∈ l0, a.ok) ∧ (∀ a ∈ l1, a.ok) ∧ (∀ a ∈ l2, a.ok) := by
  obtain ⟨⟨cs⟩, rfl, hsz⟩ := okWide_array Try.underlying55 hv
  obtain ⟨fuel, hf⟩ := h
  obtain ⟨v0, v1, v2, rfl⟩ : ∃ v0 v1 v2, cs = [v0, v1, v2] := by
    have hl : cs.length = 3 := by simpa [c55] using hsz
    match cs, hl with
    | [a, b, c], _ => exact ⟨a, b, c, rfl⟩
  obtain ⟨y0, y1, y2, n, _, t0, t1, t2⟩ := trod_array3 Try.underlying55 c51 hf
  obtain ⟨A0, n0, c0, l0, rfl, a0, b0', d0', e0, f0⟩ := open_rowsC (vals := Fr.vals) (ok := Fr.ok) Try.underlying51 c37 (by omega) (fun _ => rfl) (fun n cs x h1 h2 => fr_cells n cs x h1 h2) t0
  obtain ⟨A1, n1, c1, l1, rfl, a1, b1, d1, e1, f1⟩ := open_rowsC (vals := Fr.vals) (ok := Fr.ok) Try.underlying51 c37 (by omega) (fun _ => rfl) (fun n cs x h1 h2 => fr_cells n cs x h1 h2) t1
  obtain ⟨A2, n2, c2, l2, rfl, a2, b2, d2, e2, f2⟩ := open_rowsC (vals := Fr.vals) (ok := Fr.ok) Try.underlying51 c37 (by omega) (fun _ => rfl) (fun n cs x h1 h2 => fr_cells n cs x h1 h2) t2
  exact ⟨A0, A1, A2, n0, n1, n2, c0, c1, c2, l0, l1, l2, rfl, ⟨a0, a1, a2⟩, ⟨b0', b1, b2⟩, ⟨d0', d1, d2⟩, ⟨e0, e1, e2⟩, f0, f1, f2⟩
theorem few_any (A : Option Addr) (n c : Nat) (w : World) (hn : n ≤ c) (hc : c ≤ maxLen) : Calls Try.prog 10 #[.slice A n c] w fun e w' => e = .returned (.slice A (min n 60) c) ∧ w = w' := by
  unfold maxLen at hc
  obtain ⟨m, hm0⟩ : ∃ m, m = min n 60 := ⟨_, rfl⟩
  have hmc : m ≤ c := by omega
  have hmin : (if (60 : Int) < n then (60 : Int) else n) = m := by rw [hm0]; split <;> omega
  rw [← hm0]
  clear hm0
  go_enter Try.func10, Try.ntmps10
  go_wp2
  go_ret
  exact ⟨rfl, rfl⟩
end Go.Proofs.Ytjdabmadpclbaaa
