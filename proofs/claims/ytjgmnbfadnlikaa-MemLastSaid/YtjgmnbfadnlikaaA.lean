import Derived.Test.YtjgmnbfadnlikaaRow
import Derived.Test.YtjgmnbfadnlikaaHeld
set_option linter.unusedVariables false
set_option linter.unusedSimpArgs false
namespace Go.Proofs.Ytjgmnbfadnlikaa
open Go.RowKit
/-- a segment: how long its pages are, the pages, which of them App and Xcp see. -/
structure Sg where
  len : Nat
  pages : List (List Int)
  a : Nat
  x : Nat
structure MS where
  ram : List Int
  segs : List Sg
structure Sg.ok (g : Sg) : Prop where
  l1 : 1 ≤ g.len
  l2 : g.len ≤ 256
  p1 : 1 ≤ g.pages.length
  p2 : g.pages.length ≤ 4
  a : g.a < g.pages.length
  x : g.x < g.pages.length
  pl : ∀ p ∈ g.pages, p.length = g.len
  pb : ∀ p ∈ g.pages, Byts p
structure MS.ok (s : MS) : Prop where
  r : s.ram.length ≤ 1024
  rb : Byts s.ram
  n : s.segs.length ≤ 4
  g : ∀ g ∈ s.segs, g.ok
def segRow (va : Tg → Value) : Nat → List Sg → List Value
  | _, [] => []
  | i, g :: l => va (3, i, 0) :: .int .i64 (g.a : Int) :: .int .i64 (g.x : Int) :: segRow va (i + 1) l
theorem segRow_len (va : Tg → Value) : ∀ (i : Nat) (l : List Sg), (segRow va i l).length = l.length * 3
  | _, [] => rfl
  | i, g :: l => by simp [segRow, segRow_len va (i + 1) l]; omega
theorem segRow_get (va : Tg → Value) : ∀ (i : Nat) (l : List Sg) (k : Nat) (g : Sg) (j : Nat) (u : Value), l[k]? = some g → ([va (3, i + k, 0), .int .i64 (g.a : Int), .int .i64 (g.x : Int)] : List Value)[j]? = some u → (segRow va i l)[k * 3 + j]? = some u
  | _, [], _, _, _, _, h, _ => by simp at h
  | i, g' :: l, 0, g, j, u, h, hu => by
    simp at h; subst h
    match j, hu with
    | 0, hu => simpa [segRow] using hu
    | 1, hu => simpa [segRow] using hu
    | 2, hu => simpa [segRow] using hu
    | j + 3, hu => simp at hu
  | i, g' :: l, k + 1, g, j, u, h, hu => by
    have := segRow_get va (i + 1) l k g j u (by simpa using h) (by rw [show i + 1 + k = i + (k + 1) by omega]; exact hu)
    rw [show (k + 1) * 3 + j = k * 3 + j + 3 by omega]
    simpa [segRow] using this
theorem segRow_congr {va vb : Tg → Value} : ∀ (i : Nat) (l : List Sg), (∀ k, k < l.length → va (3, i + k, 0) = vb (3, i + k, 0)) → segRow va i l = segRow vb i l
  | _, [], _ => rfl
  | i, g :: l, h => by
    have h0 := h 0 (by simp)
    have h1 := segRow_congr (va := va) (vb := vb) (i + 1) l (fun k hk => by have := h (k + 1) (by simp; omega); rw [show i + 1 + k = i + (k + 1) by omega]; exact this)
    simp only [Nat.add_zero] at h0
    simp only [segRow, h0, h1]
theorem segRow_app (va : Tg → Value) : ∀ (i : Nat) (l : List Sg) (g : Sg), segRow va i (l ++ [g]) = segRow va i l ++ [va (3, i + l.length, 0), .int .i64 (g.a : Int), .int .i64 (g.x : Int)]
  | i, [], g => by simp [segRow]
  | i, g' :: l, g => by
    simp only [List.cons_append, segRow]
    rw [segRow_app va (i + 1) l g, List.length_cons, show i + 1 + l.length = i + (l.length + 1) by omega]
theorem segRow_set (va : Tg → Value) : ∀ (i : Nat) (l : List Sg) (k : Nat) (g g' : Sg) (c : Nat) (u : Value), l[k]? = some g →
    (([va (3, i + k, 0), .int .i64 (g.a : Int), .int .i64 (g.x : Int)] : List Value).set c u = [va (3, i + k, 0), .int .i64 (g'.a : Int), .int .i64 (g'.x : Int)]) → c < 3 → (segRow va i l).set (k * 3 + c) u = segRow va i (l.set k g')
  | _, [], _, _, _, _, _, h, _, _ => by simp at h
  | i, q :: l, 0, g, g', c, u, h, hu, hc => by
    simp at h; subst h
    match c, hu, hc with
    | 0, hu, _ => simp at hu; simp [segRow, hu]
    | 1, hu, _ => simp at hu; simp [segRow, hu]
    | 2, hu, _ => simp at hu; simp [segRow, hu]
  | i, q :: l, k + 1, g, g', c, u, h, hu, hc => by
    have := segRow_set va (i + 1) l k g g' c u (by simpa using h) (by rw [show i + 1 + k = i + (k + 1) by omega]; exact hu) hc
    rw [show (k + 1) * 3 + c = k * 3 + c + 3 by omega]
    simp only [segRow, List.set_cons_succ]
    rw [this]
def pgRow (va : Tg → Value) (i n : Nat) : List Value := (List.range n).map fun k => va (4, i, k)
theorem segRow_same (va : Tg → Value) : ∀ (i : Nat) (l : List Sg) (k : Nat) (g g' : Sg), l[k]? = some g → g'.a = g.a → g'.x = g.x → segRow va i (l.set k g') = segRow va i l
  | _, [], _, _, _, h, _, _ => by simp at h
  | i, q :: l, 0, g, g', h, h1, h2 => by simp at h; subst h; simp [segRow, h1, h2]
  | i, q :: l, k + 1, g, g', h, h1, h2 => by simp only [List.set_cons_succ, segRow]; rw [segRow_same va (i + 1) l k g g' (by simpa using h) h1 h2]
theorem pgRow_get (va : Tg → Value) (i n : Nat) {k : Nat} (h : k < n) : (pgRow va i n)[k]? = some (va (4, i, k)) := by
  simp [pgRow, List.getElem?_range h]
/-- what memory s owns. -/
def mspec (s : MS) (va : Tg → Value) (t : Tg) : Option Sp :=
  match t.1 with
  | 0 => if t.2 = (0, 0) then some ⟨62, 2, 1, [va (1, 0, 0), va (2, 0, 0)]⟩ else none
  | 1 => if t.2 = (0, 0) then some ⟨5, 1, s.ram.length, u8s s.ram⟩ else none
  | 2 => if t.2 = (0, 0) then some ⟨64, 3, s.segs.length, segRow va 0 s.segs⟩ else none
  | 3 => if t.2.2 = 0 then (s.segs[t.2.1]?).map fun g => ⟨37, 1, g.pages.length, pgRow va t.2.1 g.pages.length⟩ else none
  | 4 => (s.segs[t.2.1]?).bind fun g => (g.pages[t.2.2]?).map fun p => ⟨5, 1, p.length, u8s p⟩
  | _ => none
structure MemC (w : World) (g : Nat) (s : MS) (va : Tg → Value) (T : Nat → Option Tg) : Prop where
  O : Own w va T (mspec s va)
  g0 : va (0, 0, 0) = .slice (some ⟨g, 0, none⟩) 1 1
  ok : s.ok
section
variable {w w' : World} {g : Nat} {s : MS} {va : Tg → Value} {T : Nat → Option Tg} {F : Nat → Prop}
theorem MemC.kept (h : MemC w g s va T) (k : Kept F w w') (hF : ∀ b t, T b = some t → ¬ F b) : MemC w' g s va T := ⟨h.O.kept k hF, h.g0, h.ok⟩
theorem MemC.ext (h : MemC w g s va T) (x : Ext w w') : MemC w' g s va T := ⟨h.O.ext x, h.g0, h.ok⟩
theorem MemC.row (h : MemC w g s va T) : w.heap[g]? = some (.cells #[va (1, 0, 0), va (2, 0, 0)] 62 (0, 0)) := by
  have := h.O.own (0, 0, 0) _ rfl
  rw [h.g0] at this
  exact own_obj this
theorem MemC.ram (h : MemC w g s va T) : w.ownsRow 0 5 1 (va (1, 0, 0)) s.ram.length (u8s s.ram) := h.O.own (1, 0, 0) _ rfl
theorem MemC.seg (h : MemC w g s va T) : w.ownsRow 0 64 3 (va (2, 0, 0)) s.segs.length (segRow va 0 s.segs) := h.O.own (2, 0, 0) _ rfl
theorem MemC.pg (h : MemC w g s va T) {i : Nat} {q : Sg} (hq : s.segs[i]? = some q) : w.ownsRow 0 37 1 (va (3, i, 0)) q.pages.length (pgRow va i q.pages.length) :=
  h.O.own (3, i, 0) ⟨37, 1, q.pages.length, pgRow va i q.pages.length⟩ (by simp [mspec, hq])
theorem MemC.by_ (h : MemC w g s va T) {i k : Nat} {q : Sg} {p : List Int} (hq : s.segs[i]? = some q) (hp : q.pages[k]? = some p) : w.ownsRow 0 5 1 (va (4, i, k)) p.length (u8s p) :=
  h.O.own (4, i, k) ⟨5, 1, p.length, u8s p⟩ (by simp [mspec, hq, hp])
end
/-- which page of a segment somebody sees. -/
def Sg.see (q : Sg) (who : Int) : Nat := if who = 1 then q.a else q.x
/-- the place that somebody sees as an area, and its bytes. -/
def MS.vt (s : MS) (who : Int) (area : Nat) : Tg := if area = 0 then (1, 0, 0) else match s.segs[area - 1]? with
  | none => (1, 0, 0)
  | some q => (4, area - 1, q.see who)
def MS.vb (s : MS) (who : Int) (area : Nat) : List Int := if area = 0 then s.ram else match s.segs[area - 1]? with
  | none => []
  | some q => q.pages.getD (q.see who) []
def MS.may (s : MS) (who : Int) (area : Nat) : Bool := if area = 0 then true else match s.segs[area - 1]? with
  | none => false
  | some q => q.see who != 0
def MS.err (s : MS) (who : Int) (area at_ : Nat) (n : Int) : Int := if ¬ (who = 1 ∨ who = 2) ∨ n < 0 then 1 else if s.segs.length < area then 80 else if ((s.vb who area).length : Int) < at_ + n then 80 else 0
theorem Sg.ok.see {q : Sg} (h : q.ok) (who : Int) : q.see who < q.pages.length := by unfold Sg.see; split; exact h.a; exact h.x
theorem vb_own {w : World} {g : Nat} {s : MS} {va : Tg → Value} {T : Nat → Option Tg} (h : MemC w g s va T) (who : Int) {area : Nat} (ha : area ≤ s.segs.length) : w.ownsRow 0 5 1 (va (s.vt who area)) (s.vb who area).length (u8s (s.vb who area)) := by
  unfold MS.vt MS.vb
  by_cases h0 : area = 0
  · rw [if_pos h0, if_pos h0]; exact h.ram
  · rw [if_neg h0, if_neg h0]
    obtain ⟨q, hq⟩ : ∃ q, s.segs[area - 1]? = some q := ⟨_, List.getElem?_eq_getElem (by omega)⟩
    rw [hq]
    have hs := (h.ok.g q (List.mem_of_getElem? hq)).see who
    have hp : q.pages[q.see who]? = some (q.pages.getD (q.see who) []) := by rw [List.getD_eq_getElem?_getD, List.getElem?_eq_getElem hs]; rfl
    exact h.by_ hq hp
theorem vb_byts {s : MS} (h : s.ok) (who : Int) (area : Nat) : Byts (s.vb who area) := by
  unfold MS.vb
  by_cases h0 : area = 0
  · rw [if_pos h0]; exact h.rb
  · rw [if_neg h0]
    rcases hq : s.segs[area - 1]? with _ | q
    · exact Byts.nil
    · have hk := h.g q (List.mem_of_getElem? hq)
      have hs := hk.see who
      have hp : q.pages[q.see who]? = some (q.pages.getD (q.see who) []) := by rw [List.getD_eq_getElem?_getD, List.getElem?_eq_getElem hs]; rfl
      exact hk.pb _ (List.mem_of_getElem? hp)
theorem vb_len {s : MS} (h : s.ok) (who : Int) (area : Nat) : (s.vb who area).length ≤ 1024 := by
  unfold MS.vb
  by_cases h0 : area = 0
  · rw [if_pos h0]; exact h.r
  · rw [if_neg h0]
    rcases hq : s.segs[area - 1]? with _ | q
    · simp
    · have hk := h.g q (List.mem_of_getElem? hq)
      have hs := hk.see who
      have hp : q.pages[q.see who]? = some (q.pages.getD (q.see who) []) := by rw [List.getD_eq_getElem?_getD, List.getElem?_eq_getElem hs]; rfl
      have := hk.pl _ (List.mem_of_getElem? hp)
      have := hk.l2
      show (q.pages.getD (q.see who) []).length ≤ 1024
      omega
theorem cells2 {w : World} {g : Nat} {t : TypeId} {fr : Nat × Nat} {x0 x1 : Value} (h : w.heap[g]? = some (.cells #[x0, x1] t fr)) :
    w.cell? ⟨g, 0, none⟩ = some x0 ∧ w.cell? ⟨g, 1, none⟩ = some x1 := ⟨blk_cell h rfl, blk_cell h rfl⟩
theorem cells3 {w : World} {g : Nat} {t : TypeId} {fr : Nat × Nat} {x0 x1 x2 : Value} (h : w.heap[g]? = some (.cells #[x0, x1, x2] t fr)) :
    w.cell? ⟨g, 0, none⟩ = some x0 ∧ w.cell? ⟨g, 1, none⟩ = some x1 ∧ w.cell? ⟨g, 2, none⟩ = some x2 := ⟨blk_cell h rfl, blk_cell h rfl, blk_cell h rfl⟩
end Go.Proofs.Ytjgmnbfadnlikaa
