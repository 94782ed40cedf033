import Derived.Test.YtpjficfmmfdbjaaVD
import Derived.Test.YtpjficfmmfdbjaaOpen
set_option linter.unusedVariables false
set_option linter.unusedSimpArgs false
namespace Go.Proofs.Ytpjficfmmfdbjaa
open Go.RowKit Go.ChangeShapes Go.WideShapes
theorem elem_sym {H : Type} {enc : TypeId × Value → H} {W : World} {base : Nat} {spare : Nat → Bool} {held : Bool} (fuel : Nat) (cs : List Value) (x : DataW H × List MemPlace) (hl : cs.length = 8) (hf : DataW.trod enc Try.prog W base spare held fuel 24 cs = some x) : ∃ y : Sy, cs = y.vals ∧ y.ok := by
  obtain ⟨v0, v1, v2, v3, v4, v5, v6, v7, rfl⟩ := list8 hl
  obtain ⟨xs, n, _, _, _, hlen, hg⟩ := DataW.trod_struct Try.underlying24 hf
  have some_ : ∀ j, j < 8 → ∃ y, xs[j]? = some y := fun j hj => ⟨_, List.getElem?_eq_getElem (by rw [hlen]; simpa using hj)⟩
  obtain ⟨y0, e0⟩ := some_ 0 (by omega)
  obtain ⟨y1, e1⟩ := some_ 1 (by omega)
  obtain ⟨y2, e2⟩ := some_ 2 (by omega)
  obtain ⟨y3, e3⟩ := some_ 3 (by omega)
  obtain ⟨y4, e4⟩ := some_ 4 (by omega)
  obtain ⟨y5, e5⟩ := some_ 5 (by omega)
  obtain ⟨y6, e6⟩ := some_ 6 (by omega)
  obtain ⟨y7, e7⟩ := some_ 7 (by omega)
  have h0 := hg 0 _ rfl
  have h1 := hg 1 _ rfl
  have h2 := hg 2 _ rfl
  have h3 := hg 3 _ rfl
  have h4 := hg 4 _ rfl
  have h5 := hg 5 _ rfl
  have h6 := hg 6 _ rfl
  have h7 := hg 7 _ rfl
  simp [q3, q4, q5, q9, q21, q22, e0, e1, e2, e3, e4, e5, e6, e7] at h0 h1 h2 h3 h4 h5 h6 h7
  obtain ⟨s, k0, _, hs⟩ := DataW.trod_string Try.underlying9 h0
  obtain ⟨ar, k1, _, w1⟩ := DataW.trod_int Try.underlying5 h1
  obtain ⟨aa, k2, _, w2⟩ := DataW.trod_int Try.underlying22 h2
  obtain ⟨wd, k3, _, w3⟩ := DataW.trod_int Try.underlying3 h3
  obtain ⟨bg, k4, _⟩ := DataW.trod_bool Try.underlying4 h4
  obtain ⟨sg, k5, _⟩ := DataW.trod_bool Try.underlying4 h5
  obtain ⟨mu, k6, _, w6⟩ := DataW.trod_int Try.underlying21 h6
  obtain ⟨ad, k7, _, w7⟩ := DataW.trod_int Try.underlying21 h7
  injection k0 with k0
  injection k1 with k1
  injection k2 with k2
  injection k3 with k3
  injection k4 with k4
  injection k5 with k5
  injection k6 with k6
  injection k7 with k7
  subst k0 k1 k2 k3 k4 k5 k6 k7
  exact ⟨⟨s, ar, aa, wd, bg, sg, mu, ad⟩, rfl, hs, wf_u32 w2⟩
theorem open_syms {H : Type} {enc : TypeId × Value → H} {W : World} {base b0 : Nat} {spare : Nat → Bool} {held : Bool} {rr : Reach} {v : Value} {d : DataW H} {p : List MemPlace}
    (hv : Value.okWide Try.prog W rr b0 26 v) (h : DataW.Trod enc Try.prog W base spare held 26 v d p) :
    ∃ (A : Option Addr) (n c : Nat) (l : List Sy), v = .slice A n c ∧ n ≤ c ∧ c ≤ maxLen ∧ n = l.length ∧ Shows W 8 A n (sys l) ∧ ∀ y ∈ l, y.ok :=
  open_rows (vals := Sy.vals) (k := 8) Try.underlying26 q24 (by omega) sy_len elem_sym hv h
theorem stood24 : Try.prog.stoodInHeld 24 = false := by kernel_rfl
theorem run_eqI {P : Program} (d : Nat) (w : World) (t : TypeId) (k : IntKind) (a : Int) (h : P.underlying t = some (.int k)) : (Op.equalIn (d + 1) t (.int k a) (.int k a)).run P w = .ok true w := by
  rw [Op.equalIn]
  simp [Sem.run_bind, run_underlying h]
theorem run_eqB {P : Program} (d : Nat) (w : World) (t : TypeId) (a : Bool) (h : P.underlying t = some .bool) : (Op.equalIn (d + 1) t (.bool a) (.bool a)).run P w = .ok true w := by
  rw [Op.equalIn]
  simp [Sem.run_bind, run_underlying h]
theorem run_eqS {P : Program} (d : Nat) (w : World) (t : TypeId) (a : ByteArray) (h : P.underlying t = some .string) : (Op.equalIn (d + 1) t (.string a) (.string a)).run P w = .ok true w := by
  rw [Op.equalIn]
  simp [Sem.run_bind, run_underlying h, MapKept.bytes_beq]
theorem run_eqY (d : Nat) (y : Sy) (w : World) : (Op.equalIn (d + 3) 24 (.agg y.vals.toArray) (.agg y.vals.toArray)).run Try.prog w = .ok true w := by
  obtain ⟨s, ar, aa, wd, bg, sg, mu, ad⟩ := y
  have h0 := fun W => run_eqS (P := Try.prog) (d + 1) W 9 s Try.underlying9
  have h1 := fun W => run_eqI (P := Try.prog) (d + 1) W 5 .u8 ar Try.underlying5
  have h2 := fun W => run_eqI (P := Try.prog) (d + 1) W 22 .u32 aa Try.underlying22
  have h3 := fun W => run_eqI (P := Try.prog) (d + 1) W 3 .i64 wd Try.underlying3
  have h4 := fun W b => run_eqB (P := Try.prog) (d + 1) W 4 b Try.underlying4
  have h5 := fun W m => run_eqI (P := Try.prog) (d + 1) W 21 .i32 m Try.underlying21
  have hs := stood24
  simp only [Sy.vals]
  rw [Op.equalIn]
  simp only [Sem.run_bind, run_underlying Try.underlying24, Result.andThen_ok]
  simp [hs, go_sem, h0, h1, h2, h3, h4, h5]
theorem run_neY (y : Sy) (w : World) : (binOp .neq 24 (.agg y.vals.toArray) (.agg y.vals.toArray)).run Try.prog w = .ok (.bool false) w := by
  have := run_eqY 9997 y w
  simp only [binOp]
  unfold Op.equal Op.maxDepth
  simp [this]
theorem new_any {w : World} {A : Option Addr} {n c : Nat} {l : List Sy} (hs : Shows w 8 A n (sys l)) (hn : n = l.length) (hok : ∀ y ∈ l, y.ok) :
    Calls Try.prog 17 #[.slice A n c] w fun e w' => ∃ p, e = .returned (.tuple #[.pointer p, .int .i64 (newE l)]) ∧ Ext w w' ∧ (newE l = 0 → ∃ g, p = some ⟨g, 0, none⟩ ∧ Tab w' w.heap.size g l) ∧ (newE l ≠ 0 → p = none) := by
  by_cases h : n ≤ 64
  · exact new_short hs hn hok h
  · have he : newE l = 3 := by unfold newE; rw [if_pos (by omega)]
    rw [he]
    exact (new_long (w := w) (A := A) (c := c) (by omega)).mono fun e w' ⟨h1, h2⟩ => ⟨none, h1, (by subst h2; exact Ext.refl _), (fun h => by cases h), fun _ => rfl⟩
theorem rnew_any {w : World} {A : Option Addr} {n c : Nat} {l : List Sy} (hs : Shows w 8 A n (sys l)) (hn : n = l.length) (hok : ∀ y ∈ l, y.ok) :
    Calls Try.prog 18 #[.slice A n c] w fun e w' => e = .returned (.tuple #[rnewV l A n c, .int .i64 (newE l)]) ∧ Ext w w' := by
  by_cases h : n ≤ 64
  · exact rnew_short hs hn hok h
  · have he : newE l = 3 := by unfold newE; rw [if_pos (by omega)]
    unfold rnewV
    rw [he]
    exact (rnew_long (w := w) (A := A) (c := c) (by omega)).mono fun e w' ⟨h1, h2⟩ => ⟨h1, by subst h2; exact Ext.refl _⟩
theorem cut_sz3' {s : ByteArray} (h : s.size ≤ maxLen) : (cut40 s).size ≤ maxLen := by unfold cut40; rw [ByteArray.size_extract]; omega
theorem cuts_ok {l : List Sy} (h : ∀ y ∈ l, y.ok) : ∀ y ∈ cuts l, y.ok := by
  intro y hy
  obtain ⟨x, hx, rfl⟩ := List.mem_map.1 hy
  have := h x (List.mem_of_mem_take hx)
  exact ⟨by show (cut40 x.s).size ≤ maxLen; exact cut_sz3' this.s, this.aa⟩
theorem newE_cases (l : List Sy) : newE l = 0 ∨ newE l = 3 ∨ newE l = 1 ∨ newE l = 180 := by
  unfold newE
  split
  · exact .inr (.inl rfl)
  · split
    · exact .inr (.inr (.inl rfl))
    · split
      · exact .inl rfl
      · exact .inr (.inr (.inr rfl))
theorem newE_0 {l : List Sy} (h : newE l = 0) : l.length ≤ 64 ∧ l.all Sy.may = true ∧ (l.map Sy.s).Nodup := by
  unfold newE at h
  split at h
  · cases h
  · split at h
    · cases h
    · split at h
      · exact ⟨by omega, by simpa using ‹¬ l.all Sy.may = false›, ‹_›⟩
      · cases h
end Go.Proofs.Ytpjficfmmfdbjaa
