import Derived.Test.YtnbcmlphnllgeaaOwnP
import Derived.Test.YtnbcmlphnllgeaaHeld
set_option linter.unusedVariables false
set_option linter.unusedSimpArgs false
namespace Go.Proofs.Ytnbcmlphnllgeaa
open Go.RowKit
/-- a packet, and where its bytes lie. -/
structure Rp where
  kind : Int
  code : Int
  A : Option Addr
  n : Nat
  c : Nat
  bs : List Int
structure Pk where
  kind : Int
  code : Int
  bs : List Int
deriving DecidableEq
def Rp.vals (r : Rp) : List Value := [.int .u8 r.kind, .int .u8 r.code, .slice r.A r.n r.c]
def Rp.pk (r : Rp) : Pk := ⟨r.kind, r.code, r.bs⟩
structure Rp.ok (W : World) (r : Rp) : Prop where
  kind : 0 ≤ r.kind ∧ r.kind < 256
  code : 0 ≤ r.code ∧ r.code < 256
  rd : Rd W r.A r.n r.bs
  le : r.n ≤ r.c
  cm : r.c ≤ maxLen
theorem Rp.ok.ext {w w' : World} {r : Rp} (h : r.ok w) (x : Ext w w') : r.ok w' := ⟨h.kind, h.code, h.rd.ext x, h.le, h.cm⟩
theorem Rp.ok.kept {w w' : World} {r : Rp} {F : Nat → Prop} (h : r.ok w) (k : Kept F w w') (hF : ∀ ad, r.A = some ad → ¬ F ad.block) : r.ok w' := ⟨h.kind, h.code, h.rd.kept k hF, h.le, h.cm⟩
theorem Rp.ok.keptN {w w' : World} {r : Rp} {F : Nat → Prop} (h : r.ok w) (k : Kept F w w') (hF : ∀ ad, r.A = some ad → 0 < r.n → ¬ F ad.block) : r.ok w' := by
  refine ⟨h.kind, h.code, ?_, h.le, h.cm⟩
  rcases Nat.eq_zero_or_pos r.n with h0 | h0
  · have hb : r.bs = [] := List.eq_nil_of_length_eq_zero (by rw [h.rd.len, h0])
    rw [h0, hb]
    exact Rd.nil
  · exact h.rd.kept k (fun ad e => hF ad e h0)
theorem rp_len (r : Rp) : r.vals.length = 3 := rfl
theorem rp_one (r : Rp) : ∀ u ∈ r.vals, u.oneCell' = true := by
  intro u hu
  simp [Rp.vals] at hu
  rcases hu with rfl | rfl | rfl <;> rfl
def rps (l : List Rp) : List Value := l.flatMap Rp.vals
theorem rps_len (l : List Rp) : (rps l).length = l.length * 3 := flat_len rp_len l
theorem rps_one (l : List Rp) : ∀ u ∈ rps l, u.oneCell' = true := by
  intro u hu
  simp only [rps, List.mem_flatMap] at hu
  obtain ⟨r, _, hu⟩ := hu
  exact rp_one r u hu
theorem rps_app (a b : List Rp) : rps (a ++ b) = rps a ++ rps b := by simp [rps]
theorem rps_take : ∀ (l : List Rp) (k : Nat), (rps l).take (k * 3) = rps (l.take k)
  | [], k => by simp [rps]
  | r :: l, 0 => by simp [rps]
  | r :: l, k + 1 => by
    have := rps_take l k
    simp only [rps] at this
    rw [List.take_succ_cons]
    simp only [rps, List.flatMap_cons]
    rw [List.take_append, ← this, List.take_of_length_le (by simp [Rp.vals]; omega), show (k + 1) * 3 - (Rp.vals r).length = k * 3 by simp [Rp.vals]; omega]
theorem rps_drop : ∀ (l : List Rp) (k : Nat), (rps l).drop (k * 3) = rps (l.drop k)
  | [], k => by simp [rps]
  | r :: l, 0 => by simp [rps]
  | r :: l, k + 1 => by
    have := rps_drop l k
    simp only [rps] at this
    rw [List.drop_succ_cons]
    simp only [rps, List.flatMap_cons]
    rw [List.drop_append, ← this, List.drop_of_length_le (by simp [Rp.vals]; omega), show (k + 1) * 3 - (Rp.vals r).length = k * 3 by simp [Rp.vals]; omega]
    rfl
theorem size38 : (Try.prog.info? 32).map (·.size) = some 3 := by kernel_rfl
theorem size36 : (Try.prog.info? 30).map (·.size) = some 1 := by kernel_rfl
theorem size32 : (Try.prog.info? 23).map (·.size) = some 1 := by kernel_rfl
theorem size4 : (Try.prog.info? 4).map (·.size) = some 1 := by kernel_rfl
theorem size5 : (Try.prog.info? 5).map (·.size) = some 1 := by kernel_rfl
theorem el36 : Elem Try.prog 30 5 1 1 (.int .u8 0) := Elem.mk' Try.underlying30 (by kernel_rfl) rfl (by omega)
theorem el32 : Elem Try.prog 23 32 3 32 (.agg #[.int .u8 0, .int .u8 0, .slice none 0 0]) := Elem.mk' Try.underlying23 (by kernel_rfl) rfl (by omega)
theorem wri (n : Nat) (h : n < 9223372036854775808) : IntKind.i64.wrap (n : Int) = n := by rw [IntKind.wrap_i64]; omega
theorem wr8 {i : Nat} (h : i < 256) : IntKind.u8.wrap (i : Int) = i := by simp [IntKind.wrap, IntKind.bits, IntKind.signed]; omega
/-- a queue. -/
structure QS where
  most : Nat
  l : List Pk
  lost : List Bool
structure QS.ok (s : QS) : Prop where
  m1 : 1 ≤ s.most
  m2 : s.most ≤ 64
  n : s.l.length ≤ s.most
  f : s.lost.length = 4
def qobj (s : QS) (v : Value) : List Value := .int .i64 (s.most : Int) :: v :: s.lost.map .bool
def qspec (ty : TypeId) (s : QS) (rs : List Rp) (va : Tg → Value) (t : Tg) : Option Sp :=
  match t.1 with
  | 0 => if t.2 = (0, 0) then some ⟨ty, 6, 1, qobj s (va (1, 0, 0))⟩ else none
  | 1 => if t.2 = (0, 0) then some ⟨32, 3, rs.length, rps rs⟩ else none
  | _ => none
structure QuC (w : World) (ty : TypeId) (g : Nat) (s : QS) (rs : List Rp) (va : Tg → Value) (T : Nat → Option Tg) : Prop where
  O : Own w va T (qspec ty s rs va)
  g0 : va (0, 0, 0) = .slice (some ⟨g, 0, none⟩) 1 1
  pk : rs.map Rp.pk = s.l
  ok : s.ok
  rok : ∀ r ∈ rs, r.ok w
  far : ∀ r ∈ rs, ∀ ad, r.A = some ad → T ad.block = none ∧ ad.block < w.heap.size
section
variable {w w' : World} {ty : TypeId} {g : Nat} {s : QS} {rs : List Rp} {va : Tg → Value} {T : Nat → Option Tg} {F : Nat → Prop}
theorem QuC.kept (h : QuC w ty g s rs va T) (k : Kept F w w') (hF : ∀ b t, T b = some t → ¬ F b) (hB : ∀ r ∈ rs, ∀ ad, r.A = some ad → ¬ F ad.block) : QuC w' ty g s rs va T :=
  ⟨h.O.kept k hF, h.g0, h.pk, h.ok, fun r hr => (h.rok r hr).kept k (hB r hr), fun r hr ad e => ⟨(h.far r hr ad e).1, Nat.lt_of_lt_of_le (h.far r hr ad e).2 k.size⟩⟩
theorem QuC.ext (h : QuC w ty g s rs va T) (x : Ext w w') : QuC w' ty g s rs va T := ⟨h.O.ext x, h.g0, h.pk, h.ok, fun r hr => (h.rok r hr).ext x, fun r hr ad e => ⟨(h.far r hr ad e).1, Nat.lt_of_lt_of_le (h.far r hr ad e).2 x.size⟩⟩
theorem QuC.len (h : QuC w ty g s rs va T) : rs.length = s.l.length := by rw [← h.pk, List.length_map]
theorem QuC.obj (h : QuC w ty g s rs va T) : w.heap[g]? = some (.cells (qobj s (va (1, 0, 0))).toArray ty (0, 0)) := by
  have := h.O.own (0, 0, 0) _ rfl
  rw [h.g0] at this
  exact own_obj this
theorem QuC.row (h : QuC w ty g s rs va T) : w.ownsRow 0 32 3 (va (1, 0, 0)) rs.length (rps rs) := h.O.own (1, 0, 0) _ rfl
theorem QuC.tg (h : QuC w ty g s rs va T) : T g = some (0, 0, 0) := h.O.tag (0, 0, 0) _ rfl g (by rw [h.g0]; rfl)
/-- the object's cells. -/
theorem QuC.cells (h : QuC w ty g s rs va T) : ∃ A c, va (1, 0, 0) = .slice A rs.length c ∧ rs.length ≤ c ∧ c ≤ maxLen ∧ w.cell? ⟨g, 0, none⟩ = some (.int .i64 (s.most : Int)) ∧ w.cell? ⟨g, 1, none⟩ = some (.slice A rs.length c) ∧
    (∀ j, j < 4 → w.cell? ⟨g, 2 + j, none⟩ = some (.bool (s.lost.getD j false))) ∧ ∀ j, j < 6 → w.frozen? ⟨g, j, none⟩ = false := by
  obtain ⟨A, c, e, h1, h2, _⟩ := own_form h.row
  have K := h.obj
  rw [e] at K
  refine ⟨A, c, e, h1, h2, blk_cell K rfl, blk_cell K rfl, fun j hj => blk_cell K ?_, fun j _ => blk_free K⟩
  have := h.ok.f
  simp only [qobj, List.getElem?_toArray]
  rw [show 2 + j = j + 1 + 1 by omega, List.getElem?_cons_succ, List.getElem?_cons_succ, List.getElem?_map, List.getD_eq_getElem?_getD, List.getElem?_eq_getElem (by omega)]
  rfl
/-- a flag is set. -/
theorem qu_lost (h : QuC w ty g s rs va T) {j : Nat} (hj : j < 4) (b : Bool) : QuC (w.setCell ⟨g, 2 + j, none⟩ (.bool b)) ty g { s with lost := s.lost.set j b } rs va T ∧ Kept (fun b => T b ≠ none) w (w.setCell ⟨g, 2 + j, none⟩ (.bool b)) := by
  obtain ⟨g', c', e, O, _, _, hT⟩ := Own.cell h.O (t0 := (0, 0, 0)) (p0 := ⟨ty, 6, 1, qobj s (va (1, 0, 0))⟩) rfl (i := 2 + j) (by simp only; omega) (.bool b) (sp' := qspec ty { s with lost := s.lost.set j b } rs va) (by
    rintro ⟨a, x, y⟩ ht p hp
    match a with
    | 0 =>
      simp only [qspec] at hp
      split at hp
      · rename_i e; exact absurd (by rw [e]) ht
      · cases hp
    | 1 => exact hp
    | n + 2 => exact hp) (by
    intro p hp
    simp only [qspec, if_true] at hp
    injection hp with hp
    rw [← hp]
    simp only [qobj]
    rw [show 2 + j = j + 1 + 1 by omega, List.set_cons_succ, List.set_cons_succ, List.map_set])
  rw [h.g0] at e
  injection e with e1 e2 e3
  injection e1 with e1
  injection e1 with e1
  subst e1
  have k : Kept (fun b => T b ≠ none) w (w.setCell ⟨g, 2 + j, none⟩ (.bool b)) := Kept.of_set _ (by rw [hT]; simp)
  exact ⟨⟨O, h.g0, h.pk, ⟨h.ok.m1, h.ok.m2, h.ok.n, by simp [h.ok.f]⟩, fun r hr => (h.rok r hr).kept k (fun ad e h' => h' (h.far r hr ad e).1), fun r hr ad e => ⟨(h.far r hr ad e).1, Nat.lt_of_lt_of_le (h.far r hr ad e).2 k.size⟩⟩, k⟩
/-- the packets' row is another one, in the object's cell. -/
theorem qu_row {w1 : World} {v : Value} {B : Nat} {rs' : List Rp} {l' : List Pk} (h : QuC w ty g s rs va T) (x : Ext w w1) {w2 : World} (hv : w2.ownsRow 0 32 3 v rs'.length (rps rs')) (hg : w1.grownBy w2 (va (1, 0, 0)).ownBlock) (hb : v.ownBlock = some B) (hat : v.ownBlock = (va (1, 0, 0)).ownBlock ∨ v.ownBlock = some w1.heap.size)
    (hp : rs'.map Rp.pk = l') (hn : l'.length ≤ s.most) (hok : ∀ r ∈ rs', r.ok w1) (hfar : ∀ r ∈ rs', ∀ ad, r.A = some ad → T ad.block = none ∧ ad.block < w1.heap.size) :
    (w2.frozen? ⟨g, 1, none⟩ = false ∧ ∃ u, w2.cell? ⟨g, 1, none⟩ = some u) ∧ ∃ va' T', QuC (w2.setCell ⟨g, 1, none⟩ v) ty g { s with l := l' } rs' va' T' ∧ Kept (fun b => T b ≠ none) w (w2.setCell ⟨g, 1, none⟩ v) ∧ (∀ b t, T' b = some t → T b ≠ none ∨ w.heap.size ≤ b) := by
  obtain ⟨O1, hBB⟩ := Own.app (h.O.ext x) (t0 := (1, 0, 0)) (p0 := ⟨32, 3, rs.length, rps rs⟩) (p1 := ⟨32, 3, rs'.length, rps rs'⟩) (v := v) (B := B) rfl hv hg hb hat
    (sp' := fun t => if t = (1, 0, 0) then some ⟨32, 3, rs'.length, rps rs'⟩ else qspec ty s rs va t) (fun t ht p hp => by simpa [ht] using hp) (fun p hp => by simp at hp; exact hp.symm)
  obtain ⟨g', c', e, O2, hf, hcell, hT2⟩ := Own.cell O1 (t0 := (0, 0, 0)) (p0 := ⟨ty, 6, 1, qobj s (va (1, 0, 0))⟩) (by rw [if_neg (by simp)]; rfl) (i := 1) (by simp only; omega) v
    (sp' := qspec ty { s with l := l' } rs' (fun t => if t = (1, 0, 0) then v else va t)) (by
      rintro ⟨a, y, z⟩ ht p hp
      match a with
      | 0 =>
        simp only [qspec] at hp
        split at hp
        · rename_i e; exact absurd (by rw [e]) ht
        · cases hp
      | 1 =>
        simp only [qspec] at hp
        split at hp
        · rename_i e; rw [e, if_pos rfl]; exact hp
        · cases hp
      | n + 2 => exact hp) (by
      intro p hp
      simp [qspec] at hp
      rw [← hp]
      simp [qobj])
  have e' : va (0, 0, 0) = .slice (some ⟨g', 0, none⟩) 1 c' := by simpa using e
  rw [h.g0] at e'
  injection e' with e1 e2 e3
  injection e1 with e1
  injection e1 with e1
  subst e1
  have hTg := h.tg
  have k1 : Kept (fun b => T b ≠ none) w1 w2 := .of_grown hg (fun b e => by rw [h.O.tag (1, 0, 0) ⟨32, 3, rs.length, rps rs⟩ rfl b e]; simp)
  have k2 : Kept (fun b => T b ≠ none) w2 (w2.setCell ⟨g, 1, none⟩ v) := Kept.of_set _ (by rw [hTg]; simp)
  have s1 := x.size
  refine ⟨⟨hf, _, hcell⟩, _, _, ⟨O2, by simp; exact h.g0, hp, ⟨h.ok.m1, h.ok.m2, hn, h.ok.f⟩, fun r hr => (hok r hr).kept (k1.trans' k2) (fun ad e h' => h' (hfar r hr ad e).1), fun r hr ad e => ?_⟩, (Kept.of_ext x).trans' (k1.trans' k2), fun b t hb' => ?_⟩
  · obtain ⟨h1, h2⟩ := hfar r hr ad e
    have hne : ad.block ≠ B := fun e2 => by
      rcases hBB with hBB | hBB
      · rw [e2, hBB] at h1; cases h1
      · omega
    exact ⟨tag_mk hne h1, Nat.lt_of_lt_of_le h2 (k1.trans' k2).size⟩
  · rcases tag_cases hb' with ⟨rfl, _⟩ | hb'
    · rcases hBB with hBB | rfl
      · exact .inl (by rw [hBB]; simp)
      · exact .inr s1
    · exact .inl (by rw [hb']; simp)
end
end Go.Proofs.Ytnbcmlphnllgeaa
