import Derived.Test.YtjgmnbfadnlikaaCC
import Derived.Test.YtjgmnbfadnlikaaZC
import Derived.Test.YtjgmnbfadnlikaaOwnP
set_option linter.unusedVariables false
set_option linter.unusedSimpArgs false
namespace Go.Proofs.Ytjgmnbfadnlikaa
open Go.RowKit
def seeRow : List Sg → List Value
  | [] => []
  | q :: l => .int .i64 (q.a : Int) :: .int .i64 (q.x : Int) :: seeRow l
theorem seeRow_len : ∀ l : List Sg, (seeRow l).length = l.length * 2
  | [] => rfl
  | q :: l => by simp [seeRow, seeRow_len l]; omega
theorem seeRow_get : ∀ (l : List Sg) (k : Nat) (q : Sg) (j : Nat) (u : Value), l[k]? = some q → ([.int .i64 (q.a : Int), .int .i64 (q.x : Int)] : List Value)[j]? = some u → (seeRow l)[k * 2 + j]? = some u
  | [], _, _, _, _, h, _ => by simp at h
  | q' :: l, 0, q, j, u, h, hu => by
    simp at h; subst h
    match j, hu with
    | 0, hu => simpa [seeRow] using hu
    | 1, hu => simpa [seeRow] using hu
    | j + 2, hu => simp at hu
  | q' :: l, k + 1, q, j, u, h, hu => by
    have := seeRow_get l k q j u (by simpa using h) hu
    rw [show (k + 1) * 2 + j = k * 2 + j + 2 by omega]
    simpa [seeRow] using this
theorem seeRow_app : ∀ (l : List Sg) (q : Sg), seeRow (l ++ [q]) = seeRow l ++ [.int .i64 (q.a : Int), .int .i64 (q.x : Int)]
  | [], q => rfl
  | q' :: l, q => by simp [seeRow, seeRow_app l q]
theorem seeRow_set : ∀ (l : List Sg) (k : Nat) (q q' : Sg) (c : Nat) (u : Value), l[k]? = some q → ([.int .i64 (q.a : Int), .int .i64 (q.x : Int)] : List Value).set c u = [.int .i64 (q'.a : Int), .int .i64 (q'.x : Int)] → c < 2 → (seeRow l).set (k * 2 + c) u = seeRow (l.set k q')
  | [], _, _, _, _, _, h, _, _ => by simp at h
  | q0 :: l, 0, q, q', c, u, h, hu, hc => by
    simp at h; subst h
    match c, hu, hc with
    | 0, hu, _ => simp at hu; simp [seeRow, hu]
    | 1, hu, _ => simp at hu; simp [seeRow, hu]
  | q0 :: l, k + 1, q, q', c, u, h, hu, hc => by
    have := seeRow_set l k q q' c u (by simpa using h) hu hc
    rw [show (k + 1) * 2 + c = k * 2 + c + 2 by omega]
    simp only [seeRow, List.set_cons_succ]
    rw [this]
theorem seeRow_same : ∀ (l : List Sg) (k : Nat) (q q' : Sg), l[k]? = some q → q'.a = q.a → q'.x = q.x → seeRow (l.set k q') = seeRow l
  | [], _, _, _, h, _, _ => by simp at h
  | q0 :: l, 0, q, q', h, h1, h2 => by simp at h; subst h; simp [seeRow, h1, h2]
  | q0 :: l, k + 1, q, q', h, h1, h2 => by simp only [List.set_cons_succ, seeRow]; rw [seeRow_same l k q q' (by simpa using h) h1 h2]
def sgRow (va : Tg → Value) (n : Nat) : List Value := (List.range n).map fun i => va (3, i, 0)
theorem sgRow_len (va : Tg → Value) (n : Nat) : (sgRow va n).length = n := by simp [sgRow]
theorem sgRow_get (va : Tg → Value) (n : Nat) {k : Nat} (h : k < n) : (sgRow va n)[k]? = some (va (3, k, 0)) := by
  simp [sgRow, List.getElem?_range h]
theorem sgRow_succ (va : Tg → Value) (n : Nat) : sgRow va (n + 1) = sgRow va n ++ [va (3, n, 0)] := by simp [sgRow, List.range_succ]
theorem pgRow_succ (va : Tg → Value) (i n : Nat) : pgRow va i (n + 1) = pgRow va i n ++ [va (4, i, n)] := by simp [pgRow, List.range_succ]
theorem sgRow_congr {va vb : Tg → Value} {n : Nat} (h : ∀ i, i < n → va (3, i, 0) = vb (3, i, 0)) : sgRow va n = sgRow vb n := by
  unfold sgRow
  exact List.map_congr_left fun i hi => h i (List.mem_range.1 hi)
theorem pgRow_congr {va vb : Tg → Value} {i n : Nat} (h : ∀ k, k < n → va (4, i, k) = vb (4, i, k)) : pgRow va i n = pgRow vb i n := by
  unfold pgRow
  exact List.map_congr_left fun k hk => h k (List.mem_range.1 hk)
/-- what the reference's memory s owns. -/
def rspec (s : MS) (va : Tg → Value) (t : Tg) : Option Sp :=
  match t.1 with
  | 0 => if t.2 = (0, 0) then some ⟨68, 3, 1, [va (1, 0, 0), va (2, 0, 0), va (5, 0, 0)]⟩ else none
  | 2 => if t.2 = (0, 0) then some ⟨23, 1, s.segs.length, sgRow va s.segs.length⟩ else none
  | 5 => if t.2 = (0, 0) then some ⟨56, 2, s.segs.length, seeRow s.segs⟩ else none
  | _ => mspec s va t
theorem rspec_m (s : MS) (va : Tg → Value) {t : Tg} (h : t.1 = 1 ∨ t.1 = 3 ∨ t.1 = 4) : rspec s va t = mspec s va t := by
  obtain ⟨a, b, c⟩ := t
  rcases h with rfl | rfl | rfl <;> rfl
structure MemR (w : World) (g : Nat) (s : MS) (va : Tg → Value) (T : Nat → Option Tg) : Prop where
  O : Own w va T (rspec s va)
  g0 : va (0, 0, 0) = .slice (some ⟨g, 0, none⟩) 1 1
  ok : s.ok
section
variable {w w' : World} {g : Nat} {s : MS} {va : Tg → Value} {T : Nat → Option Tg} {F : Nat → Prop}
theorem MemR.kept (h : MemR w g s va T) (k : Kept F w w') (hF : ∀ b t, T b = some t → ¬ F b) : MemR w' g s va T := ⟨h.O.kept k hF, h.g0, h.ok⟩
theorem MemR.ext (h : MemR w g s va T) (x : Ext w w') : MemR w' g s va T := ⟨h.O.ext x, h.g0, h.ok⟩
theorem MemR.row (h : MemR w g s va T) : w.heap[g]? = some (.cells #[va (1, 0, 0), va (2, 0, 0), va (5, 0, 0)] 68 (0, 0)) := by
  have := h.O.own (0, 0, 0) _ rfl
  rw [h.g0] at this
  exact own_obj this
theorem MemR.ram (h : MemR w g s va T) : w.ownsRow 0 5 1 (va (1, 0, 0)) s.ram.length (u8s s.ram) := h.O.own (1, 0, 0) _ rfl
theorem MemR.seg (h : MemR w g s va T) : w.ownsRow 0 23 1 (va (2, 0, 0)) s.segs.length (sgRow va s.segs.length) := h.O.own (2, 0, 0) _ rfl
theorem MemR.see (h : MemR w g s va T) : w.ownsRow 0 56 2 (va (5, 0, 0)) s.segs.length (seeRow s.segs) := h.O.own (5, 0, 0) _ rfl
theorem MemR.pg (h : MemR w g s va T) {i : Nat} {q : Sg} (hq : s.segs[i]? = some q) : w.ownsRow 0 37 1 (va (3, i, 0)) q.pages.length (pgRow va i q.pages.length) :=
  h.O.own (3, i, 0) ⟨37, 1, q.pages.length, pgRow va i q.pages.length⟩ (by simp [rspec, mspec, hq])
theorem MemR.by_ (h : MemR w g s va T) {i k : Nat} {q : Sg} {p : List Int} (hq : s.segs[i]? = some q) (hp : q.pages[k]? = some p) : w.ownsRow 0 5 1 (va (4, i, k)) p.length (u8s p) :=
  h.O.own (4, i, k) ⟨5, 1, p.length, u8s p⟩ (by simp [rspec, mspec, hq, hp])
theorem rb_own (h : MemR w g s va T) (who : Int) {area : Nat} (ha : area ≤ s.segs.length) : w.ownsRow 0 5 1 (va (s.vt who area)) (s.vb who area).length (u8s (s.vb who area)) := by
  unfold MS.vt MS.vb
  by_cases h0 : area = 0
  · rw [if_pos h0, if_pos h0]; exact h.ram
  · rw [if_neg h0, if_neg h0]
    obtain ⟨q, hq⟩ : ∃ q, s.segs[area - 1]? = some q := ⟨_, List.getElem?_eq_getElem (by omega)⟩
    rw [hq]
    have hs := (h.ok.g q (List.mem_of_getElem? hq)).see who
    have hp : q.pages[q.see who]? = some (q.pages.getD (q.see who) []) := by rw [List.getD_eq_getElem?_getD, List.getElem?_eq_getElem hs]; rfl
    exact h.by_ hq hp
/-- rows, by names: the object's three slices. -/
theorem MemR.row3 (h : MemR w g s va T) : ∃ rA rc sA sc eA ec, va (1, 0, 0) = .slice rA s.ram.length rc ∧ va (2, 0, 0) = .slice sA s.segs.length sc ∧ va (5, 0, 0) = .slice eA s.segs.length ec ∧ s.ram.length ≤ rc ∧ s.segs.length ≤ sc ∧ s.segs.length ≤ ec ∧
    w.heap[g]? = some (.cells #[.slice rA s.ram.length rc, .slice sA s.segs.length sc, .slice eA s.segs.length ec] 68 (0, 0)) := by
  have K := h.row
  obtain ⟨rA, rc, hr, h1, _⟩ := own_form h.ram
  obtain ⟨sA, sc, hs, h2, _⟩ := own_form h.seg
  obtain ⟨eA, ec, he, h3, _⟩ := own_form h.see
  rw [hr, hs, he] at K
  exact ⟨rA, rc, sA, sc, eA, ec, hr, hs, he, h1, h2, h3, K⟩
/-- a segment's cells: the slice of its pages, whom sees which. -/
theorem MemR.at_ (h : MemR w g s va T) {i : Nat} {q : Sg} (hq : s.segs[i]? = some q) {sA eA : Option Addr} {n sc ec : Nat} (hs : va (2, 0, 0) = .slice sA n sc) (he : va (5, 0, 0) = .slice eA n ec) :
    ∃ sg eg, sA = some ⟨sg, 0, none⟩ ∧ eA = some ⟨eg, 0, none⟩ ∧ w.cell? ⟨sg, i, none⟩ = some (va (3, i, 0)) ∧ w.cell? ⟨eg, i * 2, none⟩ = some (.int .i64 (q.a : Int)) ∧ w.cell? ⟨eg, i * 2 + 1, none⟩ = some (.int .i64 (q.x : Int)) ∧ w.frozen? ⟨eg, i * 2, none⟩ = false ∧ w.frozen? ⟨eg, i * 2 + 1, none⟩ = false := by
  have hi := (List.getElem?_eq_some_iff.1 hq).1
  obtain ⟨sg, c, u, e, _, _, hu, hc⟩ := own_at h.seg hi
  rw [sgRow_get _ _ hi] at hu
  injection hu with hu
  subst hu
  rw [hs] at e
  injection e with e1 e2 e3
  obtain ⟨eg, c', e', _, _, _, hr⟩ := own_mid (vals := [.int .i64 (q.a : Int), .int .i64 (q.x : Int)]) h.see hi (by simp) (by simp) (fun j u hj => seeRow_get s.segs i q j u hq hj)
  have h0 := hr 0 _ rfl
  have h1 := hr 1 _ rfl
  obtain ⟨eg', c2, e2', _, _, hf0, _, _⟩ := own_set h.see (i := i * 2) (by omega) (.int .i64 0)
  obtain ⟨eg'', c3, e3', _, _, hf1, _, _⟩ := own_set h.see (i := i * 2 + 1) (by omega) (.int .i64 0)
  rw [e'] at e2' e3'
  injection e2' with a1 a2 a3
  injection a1 with a1
  injection a1 with a1
  injection e3' with b1 b2 b3
  injection b1 with b1
  injection b1 with b1
  subst a1 b1
  rw [he] at e'
  injection e' with f1 f2 f3
  exact ⟨sg, eg, e1, f1, hc, by simpa using h0, h1, hf0, hf1⟩
end
end Go.Proofs.Ytjgmnbfadnlikaa
