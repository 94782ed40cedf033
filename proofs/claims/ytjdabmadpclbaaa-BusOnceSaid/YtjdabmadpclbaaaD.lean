import Derived.Test.YtjdabmadpclbaaaC
import Derived.Deep.MidRow
set_option linter.unusedVariables false
set_option linter.unusedSimpArgs false
namespace Go.Proofs.Ytjdabmadpclbaaa
open Go.RowKit
structure Fr where
  id : Int
  ext : Bool
  len : Int
  b0 : Int
  b1 : Int
  b2 : Int
  b3 : Int
  b4 : Int
  b5 : Int
  b6 : Int
  b7 : Int
deriving DecidableEq
def Fr.vals (f : Fr) : List Value := [.int .u32 f.id, .bool f.ext, .int .i64 f.len, .int .u8 f.b0, .int .u8 f.b1, .int .u8 f.b2, .int .u8 f.b3, .int .u8 f.b4, .int .u8 f.b5, .int .u8 f.b6, .int .u8 f.b7]
def Fr.bs (f : Fr) : List Int := [f.b0, f.b1, f.b2, f.b3, f.b4, f.b5, f.b6, f.b7]
def Fr.ok (f : Fr) : Prop := 0 ≤ f.id ∧ f.id < 4294967296
def Fr.may (f : Fr) : Bool := mayB f.id f.ext f.len f.bs
def Fr.rank (f : Fr) : Int := rankB f.id f.ext f.len f.bs
def Fr.zero : Fr := ⟨0, false, 0, 0, 0, 0, 0, 0, 0, 0, 0⟩
theorem may_fr (f : Fr) (w : World) : Calls Try.prog 31 #[.agg f.vals.toArray] w fun e w' => e = .returned (.bool f.may) ∧ Ext w w' := may_any f.id f.ext f.len f.b0 f.b1 f.b2 f.b3 f.b4 f.b5 f.b6 f.b7 w
theorem rmay_fr (f : Fr) (w : World) : Calls Try.prog 23 #[.agg f.vals.toArray] w fun e w' => e = .returned (.bool f.may) ∧ Ext w w' := rmay_any f.id f.ext f.len f.b0 f.b1 f.b2 f.b3 f.b4 f.b5 f.b6 f.b7 w
theorem rank_fr (f : Fr) (w : World) (h : f.ok) : Calls Try.prog 29 #[.agg f.vals.toArray] w fun e w' => e = .returned (.int .u32 f.rank) ∧ Ext w w' := rankB_any f.id f.ext f.len f.b0 f.b1 f.b2 f.b3 f.b4 f.b5 f.b6 f.b7 w h.1
theorem rrank_fr (f : Fr) (w : World) (h : f.ok) : Calls Try.prog 24 #[.agg f.vals.toArray] w fun e w' => e = .returned (.int .u32 f.rank) ∧ Ext w w' := rrankB_any f.id f.ext f.len f.b0 f.b1 f.b2 f.b3 f.b4 f.b5 f.b6 f.b7 w h.1
def frs (l : List Fr) : List Value := l.flatMap Fr.vals
theorem frs_len : ∀ l : List Fr, (frs l).length = l.length * 11
  | [] => rfl
  | f :: l => by have := frs_len l; simp only [frs] at this; simp [frs, Fr.vals, this]; omega
theorem frs_app (a b : List Fr) : frs (a ++ b) = frs a ++ frs b := by simp [frs]
theorem frs_take : ∀ (l : List Fr) (k : Nat), (frs l).take (k * 11) = frs (l.take k)
  | [], k => by simp [frs]
  | f :: l, 0 => by simp [frs]
  | f :: l, k + 1 => by
    have := frs_take l k
    simp only [frs] at this
    rw [List.take_succ_cons]
    simp only [frs, List.flatMap_cons]
    rw [List.take_append, ← this]
    rw [List.take_of_length_le (by simp [Fr.vals]; omega), show (k + 1) * 11 - (Fr.vals f).length = k * 11 by simp [Fr.vals]; omega]
theorem frs_drop : ∀ (l : List Fr) (k : Nat), (frs l).drop (k * 11) = frs (l.drop k)
  | [], k => by simp [frs]
  | f :: l, 0 => by simp [frs]
  | f :: l, k + 1 => by
    have := frs_drop l k
    simp only [frs] at this
    rw [List.drop_succ_cons]
    simp only [frs, List.flatMap_cons]
    rw [List.drop_append, ← this]
    rw [List.drop_of_length_le (by simp [Fr.vals]; omega), show (k + 1) * 11 - (Fr.vals f).length = k * 11 by simp [Fr.vals]; omega]
    rfl
theorem frs_at {l : List Fr} {k : Nat} {f : Fr} (h : l[k]? = some f) (j : Nat) (v : Value) (hj : f.vals[j]? = some v) : (frs l)[k * 11 + j]? = some v := by
  have hk : k < l.length := (List.getElem?_eq_some_iff.1 h).1
  have e : l.drop k = f :: l.drop (k + 1) := by
    rw [List.drop_eq_getElem_cons hk]
    congr 1
    have := List.getElem?_eq_some_iff.1 h
    exact this.2
  rw [← List.getElem?_drop, frs_drop, e]
  simp only [frs, List.flatMap_cons]
  rw [List.getElem?_append_left (List.getElem?_eq_some_iff.1 hj).1]
  exact hj
theorem frs_one (l : List Fr) : ∀ v ∈ frs l, v.oneCell' = true := by
  intro v hv
  simp only [frs, List.mem_flatMap] at hv
  obtain ⟨f, _, hv⟩ := hv
  simp [Fr.vals] at hv
  rcases hv with rfl | rfl | rfl | rfl | rfl | rfl | rfl | rfl | rfl | rfl | rfl <;> rfl
/-- a row of frames shows. -/
theorem Shows.fr {w : World} {A : Option Addr} {n : Nat} {l : List Fr} (h : Shows w 11 A n (frs l)) (hn : n = l.length) {k : Nat} {f : Fr} (hk : l[k]? = some f) :
    ∃ b o, A = some ⟨b, o, none⟩ ∧ b < w.heap.size ∧ w.rangeAt b (o + k * 11) f.vals := by
  have hkl : k < l.length := (List.getElem?_eq_some_iff.1 hk).1
  obtain ⟨⟨b, o, spot⟩, rfl, hb, hc⟩ := h.2 (by omega)
  have h00 : 0 < (frs l).length := by rw [frs_len]; omega
  have h0 := hc 0 _ (List.getElem?_eq_getElem h00)
  have hs : spot = none := by simpa [Addr.add] using World.cell?_spot h0
  subst hs
  refine ⟨b, o, rfl, hb, fun j v hj => ?_⟩
  have := hc _ v (frs_at hk j v hj)
  rwa [Addr.add_mid, ← Nat.add_assoc] at this
theorem rangeAt_ext {w w' : World} {b o : Nat} {cs : List Value} (h : w.rangeAt b o cs) (x : Ext w w') : w'.rangeAt b o cs := fun j v hj => by
  have := h j v hj
  exact (Below.cell x (p := ⟨b, o + j, none⟩) (World.block_lt_of_cell? w _ this)).trans this
theorem size37 : (Try.prog.info? 34).map (·.size) = some 11 := by kernel_rfl
theorem ld_fr {w : World} {b o : Nat} {f : Fr} (h : w.rangeAt b o f.vals) : (Instr.loadAt 34 (.pointer (some ⟨b, o, none⟩))).run Try.prog w = .ok (.agg f.vals.toArray) w :=
  run_loadAt_mid w b o 34 f.vals _ h Try.underlying34 rfl size37
theorem el45 : Elem Try.prog 51 34 11 24 (.agg Fr.zero.vals.toArray) := Elem.mk' Try.underlying51 (by kernel_rfl) rfl (by omega)
end Go.Proofs.Ytjdabmadpclbaaa
