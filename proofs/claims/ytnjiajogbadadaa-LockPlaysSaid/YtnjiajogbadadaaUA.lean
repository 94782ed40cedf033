import Derived.Test.YtnjiajogbadadaaL
import Derived.OpenShut
import Derived.Deep.Slices
set_option linter.unusedVariables false
set_option linter.unusedSimpArgs false
namespace Go.Proofs.Ytnjiajogbadadaa
open Go.RowKit Go.ChangeShapes Go.WideShapes
theorem exists_list {α : Type} {R : Nat → α → Prop} : ∀ n, (∀ i, i < n → ∃ a, R i a) → ∃ l : List α, l.length = n ∧ ∀ i a, l[i]? = some a → R i a
  | 0, _ => ⟨[], rfl, fun i a h => by simp at h⟩
  | n + 1, h => by
    obtain ⟨l, hl, hr⟩ := exists_list n (fun i hi => h i (by omega))
    obtain ⟨a, ha⟩ := h n (by omega)
    refine ⟨l ++ [a], by simp [hl], fun i b hb => ?_⟩
    rcases Nat.lt_or_ge i n with g | g
    · rw [List.getElem?_append_left (by omega)] at hb
      exact hr i b hb
    · rw [List.getElem?_append_right (by omega)] at hb
      have hi : i - l.length = 0 := by
        rcases Nat.eq_zero_or_pos (i - l.length) with h0 | h0
        · exact h0
        · rw [List.getElem?_eq_none (by simp; omega)] at hb; cases hb
      rw [hi] at hb
      injection hb with hb
      subst hb
      have : i = n := by omega
      rw [this]; exact ha
theorem flat_len {α : Type} {vals : α → List Value} {k : Nat} (hk : ∀ a, (vals a).length = k) : ∀ l : List α, (l.flatMap vals).length = l.length * k
  | [] => by simp
  | a :: l => by
    rw [List.flatMap_cons, List.length_append, hk, flat_len hk l, List.length_cons, Nat.add_mul]
    omega
theorem flat_get {α : Type} {vals : α → List Value} {k : Nat} (hk : ∀ a, (vals a).length = k) : ∀ (l : List α) (j : Nat) (u : Value), (l.flatMap vals)[j]? = some u → ∃ q r a, j = q * k + r ∧ r < k ∧ l[q]? = some a ∧ (vals a)[r]? = some u
  | [], j, u, h => by simp at h
  | a :: l, j, u, h => by
    rw [List.flatMap_cons] at h
    rcases Nat.lt_or_ge j k with g | g
    · rw [List.getElem?_append_left (by rw [hk]; exact g)] at h
      exact ⟨0, j, a, by omega, g, rfl, h⟩
    · rw [List.getElem?_append_right (by rw [hk]; exact g), hk] at h
      obtain ⟨q, r, b, h1, h2, h3, h4⟩ := flat_get hk l _ u h
      refine ⟨q + 1, r, b, ?_, h2, h3, h4⟩
      rw [Nat.add_mul]
      omega
theorem open_rows {α : Type} {H : Type} {enc : TypeId × Value → H} {W : World} {base b0 : Nat} {spare : Nat → Bool} {held : Bool} {r : Reach} {v : Value} {d : DataW H} {p : List MemPlace} {t e : TypeId} {k : Nat} {vals : α → List Value} {ok : α → Prop}
    (ht : Try.prog.underlying t = some (.slice e)) (hk : Try.prog.cellsOf e = k) (k0 : 0 < k) (hlen : ∀ a, (vals a).length = k)
    (elem : ∀ n cs x, cs.length = k → DataW.trod enc Try.prog W base spare held n e cs = some x → ∃ a, cs = vals a ∧ ok a)
    (hv : Value.okWide Try.prog W r b0 t v) (h : DataW.Trod enc Try.prog W base spare held t v d p) :
    ∃ (A : Option Addr) (n c : Nat) (l : List α), v = .slice A n c ∧ n ≤ c ∧ c ≤ maxLen ∧ n = l.length ∧ Shows W k A n (l.flatMap vals) ∧ ∀ a ∈ l, ok a := by
  obtain ⟨A, n, c, rfl⟩ := okWide_slice ht hv
  obtain ⟨fuel, hf⟩ := h
  rcases Deep.open_slice ht hf with ⟨h0, _⟩ | ⟨a, len, cap, m, n', D, Pl, hcs, hb, hl, hm, hmm, _, hi⟩
  · simp [Value.cells] at h0
    obtain ⟨rfl, rfl, rfl⟩ := h0
    exact ⟨none, 0, 0, [], rfl, Nat.le_refl _, by simp, rfl, Shows.nil, by simp⟩
  · simp [Value.cells] at hcs
    obtain ⟨rfl, rfl, rfl⟩ := hcs
    have hlm : n ≤ m := by rw [hmm]; split <;> omega
    obtain ⟨l, hll, hr⟩ := exists_list (R := fun i x => (∀ j u, (vals x)[j]? = some u → W.cell? (a.add (i * k + j)) = some u) ∧ ok x) n (fun i hin => by
      obtain ⟨cs', hc, ht'⟩ := hi i (by omega)
      rw [hk] at hc
      obtain ⟨_, hcl, hat⟩ := World.cells?_some hc
      obtain ⟨x, rfl, hx⟩ := elem _ _ _ hcl ht'
      refine ⟨x, fun j u hj => ?_, hx⟩
      have hjk : j < k := by rw [← hlen x]; exact (List.getElem?_eq_some_iff.1 hj).1
      rw [← add_add', hat j hjk, hj])
    refine ⟨_, _, _, l, rfl, hl, hm, hll.symm, ⟨by rw [flat_len hlen, hll], fun h0 => ⟨a, rfl, ?_, fun j u hu => ?_⟩⟩, fun x hx => ?_⟩
    · obtain ⟨x, hx⟩ : ∃ x, l[0]? = some x := ⟨_, List.getElem?_eq_getElem (by omega)⟩
      have hv0 : 0 < (vals x).length := by rw [hlen]; exact k0
      have := (hr 0 x hx).1 0 _ (List.getElem?_eq_getElem hv0)
      have := World.block_lt_of_cell? W _ this
      rwa [block_add] at this
    · obtain ⟨q, r, x, rfl, h2, h3, h4⟩ := flat_get hlen l j u hu
      exact (hr q x h3).1 r u h4
    · obtain ⟨q, hq, rfl⟩ := List.getElem_of_mem hx
      exact (hr q _ (List.getElem?_eq_getElem hq)).2
structure Ac where
  k : Int
  m : Int
  r : Int
  left : Int
  A : Option Addr
  n : Nat
  c : Nat
  bs : List Int
def Ac.vals (a : Ac) : List Value := [.int .u8 a.k, .int .u8 a.m, .int .u8 a.r, .int .i64 a.left, .slice a.A a.n a.c]
structure Ac.ok (W : World) (a : Ac) : Prop where
  k : 0 ≤ a.k ∧ a.k < 256
  m : 0 ≤ a.m ∧ a.m < 256
  r : 0 ≤ a.r ∧ a.r < 256
  rd : Rd W a.A a.n a.bs
  le : a.n ≤ a.c
  cm : a.c ≤ maxLen
theorem ac_len (a : Ac) : a.vals.length = 5 := rfl
theorem ac_one (a : Ac) : ∀ v ∈ a.vals, v.oneCell' = true := by
  intro v hv
  simp [Ac.vals] at hv
  rcases hv with rfl | rfl | rfl | rfl | rfl <;> rfl
theorem size31 : (Try.prog.info? 31).map (·.size) = some 5 := by kernel_rfl
theorem c31 : Try.prog.cellsOf 31 = 5 := by kernel_rfl
theorem c5 : Try.prog.cellsOf 5 = 1 := by kernel_rfl
theorem c3 : Try.prog.cellsOf 3 = 1 := by kernel_rfl
theorem c29 : Try.prog.cellsOf 29 = 1 := by kernel_rfl
theorem ac_cells {H : Type} {enc : TypeId × Value → H} {W : World} {base : Nat} {held : Bool} (fuel : Nat) (cs : List Value) (x : DataW H × List MemPlace) (hl : cs.length = 5) (hf : DataW.trod enc Try.prog W base (fun _ => true) held fuel 31 cs = some x) : ∃ a : Ac, cs = a.vals ∧ a.ok W := by
  obtain ⟨v0, v1, v2, v3, v4, rfl⟩ : ∃ v0 v1 v2 v3 v4, cs = [v0, v1, v2, v3, v4] := by
    match cs, hl with
    | [a, b, c, d, e], _ => exact ⟨a, b, c, d, e, rfl⟩
  obtain ⟨xs, n, _, _, _, hlen, hg⟩ := DataW.trod_struct Try.underlying31 hf
  have some_ : ∀ j, j < 5 → ∃ y, xs[j]? = some y := fun j hj => ⟨_, List.getElem?_eq_getElem (by rw [hlen]; simpa using hj)⟩
  obtain ⟨y0, e0⟩ := some_ 0 (by omega)
  obtain ⟨y1, e1⟩ := some_ 1 (by omega)
  obtain ⟨y2, e2⟩ := some_ 2 (by omega)
  obtain ⟨y3, e3⟩ := some_ 3 (by omega)
  obtain ⟨y4, e4⟩ := some_ 4 (by omega)
  have h0 := hg 0 _ rfl
  have h1 := hg 1 _ rfl
  have h2 := hg 2 _ rfl
  have h3 := hg 3 _ rfl
  have h4 := hg 4 _ rfl
  simp [Value.cells, c5, c3, c29, e0, e1, e2, e3, e4] at h0 h1 h2 h3 h4
  obtain ⟨k, q0, _, w0⟩ := DataW.trod_int Try.underlying5 h0
  obtain ⟨m, q1, _, w1⟩ := DataW.trod_int Try.underlying5 h1
  obtain ⟨r, q2, _, w2⟩ := DataW.trod_int Try.underlying5 h2
  obtain ⟨left, q3, _, w3⟩ := DataW.trod_int Try.underlying3 h3
  have hsl : ∃ A n' cp, v4 = .slice A n' cp := by
    rcases Go.ChangeShapes.open_ints Try.underlying29 Try.underlying5 (by kernel_rfl) h4 with ⟨hcs, _⟩ | ⟨x, l, c', zs, hcs, _⟩
    · simp at hcs; exact ⟨_, _, _, hcs⟩
    · simp at hcs; exact ⟨_, _, _, hcs⟩
  obtain ⟨A, n', cp, rfl⟩ := hsl
  obtain ⟨bs, rdi, le, cm⟩ := RdI.open_ (H := H) (enc := enc) (w := W) (base := base) (held := held) (d := y4.1) (p := y4.2) Try.underlying29 Try.underlying5 (by kernel_rfl) ⟨n, h4⟩
  injection q0 with q0
  injection q1 with q1
  injection q2 with q2
  injection q3 with q3
  subst q0 q1 q2 q3
  exact ⟨⟨k, m, r, left, A, n', cp, bs⟩, rfl, ⟨wf_u8 w0, wf_u8 w1, wf_u8 w2, rdi.rd, le, cm⟩⟩
theorem open_acts {H : Type} {enc : TypeId × Value → H} {W : World} {base b0 : Nat} {held : Bool} {r : Reach} {v : Value} {d : DataW H} {p : List MemPlace}
    (hv : Value.okWide Try.prog W r b0 22 v) (h : DataW.Trod enc Try.prog W base (fun _ => true) held 22 v d p) :
    ∃ (A : Option Addr) (n c : Nat) (l : List Ac), v = .slice A n c ∧ n ≤ c ∧ c ≤ maxLen ∧ n = l.length ∧ Shows W 5 A n (l.flatMap Ac.vals) ∧ ∀ a ∈ l, a.ok W :=
  open_rows Try.underlying22 c31 (by omega) ac_len (fun n cs x => ac_cells n cs x) hv h
end Go.Proofs.Ytnjiajogbadadaa
