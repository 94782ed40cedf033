import Derived.Test.YtjgmnbfadnlikaaZB
set_option linter.unusedVariables false
set_option linter.unusedSimpArgs false
namespace Go.Proofs.Ytjgmnbfadnlikaa
open Go.RowKit
/-- pages for Flash: as long as the segments say, each in a block of its own, none in the list's. -/
structure FlR (w : World) (lo : Nat) (segs : List SM) (fv : Value) (fl : List FB) : Prop where
  own : w.ownsRow lo 37 1 fv fl.length (fl.flatMap FB.vals)
  rd : ∀ f ∈ fl, Rd w f.A f.n f.bs ∧ f.n ≤ f.c ∧ f.c ≤ maxLen
  len : ∀ (i : Nat) (f : FB) (s : SM), fl[i]? = some f → segs[i]? = some s → (f.n : Int) = s.len
  ne : ∀ f ∈ fl, ∀ ad, f.A = some ad → lo ≤ ad.block ∧ ad.block < w.heap.size ∧ ∀ b, fv.ownBlock = some b → ad.block ≠ b
theorem FlR.nil (w : World) (lo : Nat) (segs : List SM) : FlR w lo segs (.slice none 0 0) [] := ⟨⟨rfl, .inl ⟨rfl, rfl⟩⟩, by simp, by simp, by simp⟩
theorem FlR.ext {w w' : World} {lo : Nat} {segs : List SM} {fv : Value} {fl : List FB} (h : FlR w lo segs fv fl) (x : Ext w w') : FlR w' lo segs fv fl :=
  ⟨own_ext h.own x, fun f hf => ⟨(h.rd f hf).1.ext x, (h.rd f hf).2⟩, h.len, fun f hf ad e => ⟨(h.ne f hf ad e).1, Nat.lt_of_lt_of_le (h.ne f hf ad e).2.1 x.size, (h.ne f hf ad e).2.2⟩⟩
theorem FlR.grown {w w' : World} {lo g : Nat} {segs : List SM} {fv : Value} {fl : List FB} (h : FlR w lo segs fv fl) (x : w.grownBy w' (some g)) (hg : g < lo) : FlR w' lo segs fv fl :=
  ⟨own_grow h.own x (fun b e h2 => by have := (h.own.lt b e).1; injection h2 with h2; omega), fun f hf => ⟨(h.rd f hf).1.grown x (fun ad e h2 => by have := (h.ne f hf ad e).1; injection h2 with h2; omega), (h.rd f hf).2⟩, h.len, fun f hf ad e => ⟨(h.ne f hf ad e).1, Nat.lt_of_lt_of_le (h.ne f hf ad e).2.1 x.size, (h.ne f hf ad e).2.2⟩⟩
/-- a new page is appended. -/
theorem FlR.app {w w' : World} {lo : Nat} {segs : List SM} {fv fv' : Value} {fl : List FB} (h : FlR w lo segs fv fl) (hlo : lo ≤ w.heap.size) {B ln : Nat} {bs : List Int} (hr : Rd w (some ⟨B, 0, none⟩) ln bs) (hB : lo ≤ B) (hBl : B < w.heap.size) (hBf : ∀ b, fv.ownBlock = some b → B ≠ b) (hm : ln ≤ maxLen) {s : SM} (hs : segs[fl.length]? = some s) (hl : (ln : Int) = s.len)
    (own : w'.ownsRow lo 37 1 fv' (fl.length + 1) (fl.flatMap FB.vals ++ [.slice (some ⟨B, 0, none⟩) ln ln])) (gr : w.grownBy w' fv.ownBlock) (hat : fv'.ownBlock = fv.ownBlock ∨ fv'.ownBlock = some w.heap.size) :
    FlR w' lo segs fv' (fl ++ [⟨some ⟨B, 0, none⟩, ln, ln, bs⟩]) := by
  have hne : ∀ A : Option Addr, ∀ ad, A = some ad → (∀ b, fv.ownBlock = some b → ad.block ≠ b) → ad.block < w.heap.size → some ad.block ≠ fv.ownBlock ∧ ∀ b, fv'.ownBlock = some b → ad.block ≠ b := by
    intro A ad e h1 h2
    refine ⟨fun h3 => ?_, fun b hb => ?_⟩
    · exact h1 _ h3.symm rfl
    · rcases hat with e2 | e2
      · rw [e2] at hb; exact h1 b hb
      · rw [e2] at hb; injection hb with hb; omega
  refine ⟨?_, ?_, ?_, ?_⟩
  · rw [List.length_append, List.flatMap_append]
    exact own
  · intro f hf
    rcases List.mem_append.1 hf with hf | hf
    · exact ⟨(h.rd f hf).1.grown gr (fun ad e => (hne _ ad e (h.ne f hf ad e).2.2 (h.ne f hf ad e).2.1).1), (h.rd f hf).2⟩
    · simp at hf
      subst hf
      exact ⟨hr.grown gr (fun ad e => by injection e with e; subst e; exact (hne _ ⟨B, 0, none⟩ rfl hBf hBl).1), Nat.le_refl _, hm⟩
  · intro i f s' hf hs'
    rcases Nat.lt_or_ge i fl.length with hi | hi
    · rw [List.getElem?_append_left hi] at hf
      exact h.len i f s' hf hs'
    · rw [List.getElem?_append_right hi] at hf
      have : i - fl.length = 0 := by
        rcases Nat.eq_zero_or_pos (i - fl.length) with h0 | h0
        · exact h0
        · rw [List.getElem?_eq_none (by simp; omega)] at hf; cases hf
      rw [this] at hf
      simp at hf
      subst hf
      have hi2 : i = fl.length := by omega
      subst hi2
      rw [hs] at hs'
      injection hs' with hs'
      subst hs'
      exact hl
  · intro f hf ad e
    have hsz := gr.size
    rcases List.mem_append.1 hf with hf | hf
    · have h3 := h.ne f hf ad e
      exact ⟨h3.1, by omega, (hne _ ad e h3.2.2 h3.2.1).2⟩
    · simp at hf
      subst hf
      injection e with e
      subst e
      exact ⟨hB, by show B < _; omega, (hne _ ⟨B, 0, none⟩ rfl hBf hBl).2⟩
theorem wrap8_byts (n : Int) : 0 ≤ IntKind.u8.wrap n ∧ IntKind.u8.wrap n < 256 := by simp [IntKind.wrap, IntKind.bits, IntKind.signed]; omega
end Go.Proofs.Ytjgmnbfadnlikaa
