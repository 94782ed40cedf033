import Derived.Test.YtjgmnbfadnlikaaL
set_option linter.unusedVariables false
set_option linter.unusedSimpArgs false
namespace Go.Proofs.Ytjgmnbfadnlikaa
open Go.RowKit
theorem copy_any {w : World} {g : Nat} {s : MS} {va : Tg → Value} {T : Nat → Option Tg} (h : MemC w g s va T) (seg a b : Int) : Calls Try.prog 26 #[.pointer (some ⟨g, 0, none⟩), .int .i64 seg, .int .i64 a, .int .i64 b] w fun e w' => e = .returned (.int .i64 (s.cp seg a b).2) ∧ MemC w' g (s.cp seg a b).1 va T ∧ Kept (fun x => T x ≠ none) w w' := by
  have no : (s.cp seg a b = (s, 82)) → (Calls Try.prog 26 #[.pointer (some ⟨g, 0, none⟩), .int .i64 seg, .int .i64 a, .int .i64 b] w fun e w' => e = .returned (.int .i64 82) ∧ w = w') → Calls Try.prog 26 #[.pointer (some ⟨g, 0, none⟩), .int .i64 seg, .int .i64 a, .int .i64 b] w fun e w' => e = .returned (.int .i64 (s.cp seg a b).2) ∧ MemC w' g (s.cp seg a b).1 va T ∧ Kept (fun x => T x ≠ none) w w' := by
    intro e hc
    rw [e]
    refine hc.mono ?_
    rintro e w' ⟨rfl, rfl⟩
    exact ⟨rfl, h, Kept.refl _ _⟩
  by_cases ha : s.has seg a
  · by_cases hb : s.has seg b
    · obtain ⟨i, k, q, rfl, rfl, hq, hk⟩ := has_nat ha
      obtain ⟨i', k', q', e1, rfl, hq', hk'⟩ := has_nat hb
      obtain rfl : i = i' := by omega
      rw [hq] at hq'; injection hq' with hq'; subst hq'
      by_cases h0 : k' = 0
      · subst h0
        have e : s.cp i k (0 : Nat) = (s, 81) := by
          unfold MS.cp
          simp only [Int.toNat_natCast, hq]
          rw [if_pos (by omega), if_pos (by omega)]
        rw [e]
        refine (copy_zero h i k ha).mono ?_
        rintro e w' ⟨rfl, rfl⟩
        exact ⟨rfl, h, Kept.refl _ _⟩
      · have e : s.cp i k k' = (s.seg i (q.cp k k'), 0) := by
          unfold MS.cp
          simp only [Int.toNat_natCast, hq]
          rw [if_pos (by omega), if_neg (by omega)]
        rw [e]
        exact copy_yes h hq hk hk' h0
    · refine no ?_ (copy_no2 h seg a b ha hb)
      unfold MS.cp
      rcases hq : s.segs[seg.toNat]? with _ | q
      · rfl
      · simp only
        rw [if_neg (fun h => hb ⟨h.1, h.2.2.2.1, q, hq, h.2.2.2.2⟩)]
  · refine no ?_ (copy_no1 h seg a b ha)
    unfold MS.cp
    rcases hq : s.segs[seg.toNat]? with _ | q
    · rfl
    · simp only
      rw [if_neg (fun h => ha ⟨h.1, h.2.1, q, hq, h.2.2.1⟩)]
/-- a map that is given. -/
structure SM where
  len : Int
  pages : Int
def SM.vals (s : SM) : List Value := [.int .i64 s.len, .int .i64 s.pages]
structure FB where
  A : Option Addr
  n : Nat
  c : Nat
  bs : List Int
def FB.vals (f : FB) : List Value := [.slice f.A f.n f.c]
structure MP where
  ram : Int
  segs : List SM
  flash : List FB
def SM.may (s : SM) : Bool := decide (1 ≤ s.len) && decide (s.len ≤ 256) && decide (1 ≤ s.pages) && decide (s.pages ≤ 4)
def MP.fit (m : MP) (k : Nat) : Bool := match m.flash[k]?, m.segs[k]? with
  | some f, some s => decide ((f.n : Int) ≤ s.len)
  | _, _ => true
def MP.head (m : MP) : Bool := decide (0 ≤ m.ram) && decide (m.ram ≤ 1024) && decide (m.segs.length ≤ 4) && decide (m.flash.length ≤ m.segs.length)
def MP.may (m : MP) : Bool := m.head && m.segs.all SM.may && (List.range m.flash.length).all m.fit
/-- how it lies in memory. -/
structure MpR (w : World) (m : MP) (sA fA : Option Addr) (sc fc : Nat) : Prop where
  segs : Shows w 2 sA m.segs.length (m.segs.flatMap SM.vals)
  flash : Shows w 1 fA m.flash.length (m.flash.flatMap FB.vals)
  rd : ∀ f ∈ m.flash, Rd w f.A f.n f.bs ∧ f.n ≤ f.c ∧ f.c ≤ maxLen
  sm : m.segs.length ≤ sc ∧ sc ≤ maxLen
  fm : m.flash.length ≤ fc ∧ fc ≤ maxLen
theorem MpR.ext {w w' : World} {m : MP} {sA fA : Option Addr} {sc fc : Nat} (h : MpR w m sA fA sc fc) (x : Ext w w') : MpR w' m sA fA sc fc :=
  ⟨h.segs.ext x, h.flash.ext x, fun f hf => ⟨(h.rd f hf).1.ext x, (h.rd f hf).2⟩, h.sm, h.fm⟩
theorem size54 : (Try.prog.info? 54).map (·.size) = some 2 := by kernel_rfl
theorem sm_len (s : SM) : s.vals.length = 2 := rfl
theorem fb_len (f : FB) : f.vals.length = 1 := rfl
theorem sm_one (s : SM) : ∀ u ∈ s.vals, u.oneCell' = true := by
  intro u hu
  simp [SM.vals] at hu
  rcases hu with rfl | rfl <;> rfl
theorem may_bad {m : MP} {k : Nat} {s : SM} (hs : m.segs[k]? = some s) (hb : s.may = false) : m.may = false := by
  have : m.segs.all SM.may = false := by
    rw [List.all_eq_false]
    exact ⟨s, List.mem_of_getElem? hs, by simp [hb]⟩
  simp [MP.may, this]
theorem may_unfit {m : MP} {k : Nat} (hk : k < m.flash.length) (hb : m.fit k = false) : m.may = false := by
  have : (List.range m.flash.length).all m.fit = false := by
    rw [List.all_eq_false]
    exact ⟨k, by simpa using hk, by simp [hb]⟩
  simp [MP.may, this]
end Go.Proofs.Ytjgmnbfadnlikaa
