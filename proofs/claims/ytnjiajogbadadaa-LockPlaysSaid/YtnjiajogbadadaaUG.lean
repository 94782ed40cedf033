import Derived.Test.YtnjiajogbadadaaUA
import Derived.Test.YtnjiajogbadadaaUF
import Derived.Deep.MidRow
set_option linter.unusedVariables false
set_option linter.unusedSimpArgs false
namespace Go.Proofs.Ytnjiajogbadadaa
open Go.RowKit
section
variable {P : Program} {w : World}
theorem wpList_stnew {ops : Array Oper} {rest : List Oper} {o : Oper} {a : Act} {Q : Exit → Act → World → Prop} (hgd : o.guard = none) (ty : TypeId) (x y : Operand) (ho : o.op = .store ty x y)
    {w1 : World} {z : Array Value} {t : TypeId} (hw : w = w1.alloc (.cells z t)) (vs : List Value) (hx : a.eval x = .pointer (some ⟨w1.heap.size, 0, none⟩)) (hy : a.eval y = .agg vs.toArray)
    (hi : (P.info? ty).map (·.size) = some vs.length) (hz : z.size = vs.length) (h1 : ∀ v ∈ vs, v.oneCell' = true)
    (h : wpList P ops Q rest (a.put o.dst undef) (w1.alloc (.cells vs.toArray t))) : wpList P ops Q (o :: rest) a w := by
  subst hw
  refine wpList_store_row hgd ty x y ho w1.heap.size vs.toArray hx hy t z (heap_alloc_new _ _) (by simpa using hi) (by simpa using hz) (all_oneCell_toArray h1) ?_
  have e : (w1.alloc (.cells z t)).setRow w1.heap.size vs.toArray = w1.alloc (.cells vs.toArray t) := by
    unfold World.setRow World.alloc
    congr 1
    apply Array.ext
    · simp
    · intro i h1 h2
      simp only [Array.getElem_modify, Array.getElem_push]
      split
      · rename_i hk; subst hk; simp
      · rename_i hk
        have : i < w1.heap.size := by simp at h2; omega
        simp [this]
  rw [e]; exact h
end
theorem flat_at {α : Type} {vals : α → List Value} {k : Nat} (hk : ∀ a, (vals a).length = k) : ∀ (l : List α) (q : Nat) (a : α) (r : Nat) (u : Value), l[q]? = some a → (vals a)[r]? = some u → (l.flatMap vals)[q * k + r]? = some u
  | [], q, a, r, u, h, _ => by simp at h
  | b :: l, 0, a, r, u, h, hr => by
    simp at h; subst h
    rw [List.flatMap_cons, List.getElem?_append_left (by have := (List.getElem?_eq_some_iff.1 hr).1; omega)]
    simpa using hr
  | b :: l, q + 1, a, r, u, h, hr => by
    rw [List.flatMap_cons, List.getElem?_append_right (by rw [hk, Nat.add_mul]; omega), hk]
    have := flat_at hk l q a r u (by simpa using h) hr
    rw [← this]; congr 1
    rw [Nat.add_mul]; omega
theorem Shows.row {α : Type} {vals : α → List Value} {k : Nat} (hk : ∀ a, (vals a).length = k) (k0 : 0 < k) {w : World} {A : Option Addr} {n : Nat} {l : List α} (h : Shows w k A n (l.flatMap vals)) (hn : n = l.length) {i : Nat} {a : α} (ha : l[i]? = some a) :
    ∃ b o, A = some ⟨b, o, none⟩ ∧ b < w.heap.size ∧ w.rangeAt b (o + i * k) (vals a) := by
  have hil : i < l.length := (List.getElem?_eq_some_iff.1 ha).1
  obtain ⟨⟨b, o, spot⟩, rfl, hb, hc⟩ := h.2 (by omega)
  have h00 : 0 < (l.flatMap vals).length := by rw [flat_len hk]; exact Nat.mul_pos (by omega) k0
  have h0 := hc 0 _ (List.getElem?_eq_getElem h00)
  have hs : spot = none := by simpa [Addr.add] using World.cell?_spot h0
  subst hs
  refine ⟨b, o, rfl, hb, fun j v hj => ?_⟩
  have := hc _ v (flat_at hk l i a j v ha hj)
  rwa [Addr.add_mid, ← Nat.add_assoc] at this
theorem elA : Elem Try.prog 22 31 5 40 (.agg #[.int .u8 0, .int .u8 0, .int .u8 0, .int .i64 0, .slice none 0 0]) := Elem.mk' Try.underlying22 (by kernel_rfl) rfl (by omega)
def Ac.cut (a : Ac) : Ac := { a with n := min a.n 30, bs := a.bs.take (min a.n 30) }
def cuts (l : List Ac) (k : Nat) : List Value := ((l.take (min k 60)).map Ac.cut).flatMap Ac.vals
theorem cuts_skip (l : List Ac) {k : Nat} (h : ¬ k < 60) : cuts l (k + 1) = cuts l k := by unfold cuts; rw [show min (k + 1) 60 = min k 60 by omega]
theorem cuts_step (l : List Ac) {k : Nat} {y : Ac} (h : k < 60) (hy : l[k]? = some y) : cuts l (k + 1) = cuts l k ++ y.cut.vals := by
  unfold cuts
  rw [show min (k + 1) 60 = k + 1 by omega, show min k 60 = k by omega, List.take_add_one, hy]
  simp
theorem cells5 {w : World} {g : Nat} {t : TypeId} {fr : Nat × Nat} {x0 x1 x2 x3 x4 : Value} (h : w.heap[g]? = some (.cells #[x0, x1, x2, x3, x4] t fr)) :
    w.cell? ⟨g, 0, none⟩ = some x0 ∧ w.cell? ⟨g, 1, none⟩ = some x1 ∧ w.cell? ⟨g, 2, none⟩ = some x2 ∧ w.cell? ⟨g, 3, none⟩ = some x3 ∧ w.cell? ⟨g, 4, none⟩ = some x4 :=
  ⟨blk_cell h rfl, blk_cell h rfl, blk_cell h rfl, blk_cell h rfl, blk_cell h rfl⟩
theorem shows5 {w : World} {g : Nat} {x0 x1 x2 x3 x4 : Value} {t : TypeId} (h : g = w.heap.size) : Shows (w.alloc (.cells #[x0, x1, x2, x3, x4] t)) 5 (some ⟨g, 0, none⟩) 1 [x0, x1, x2, x3, x4] := by
  subst h
  have K := heap_alloc_new w (.cells #[x0, x1, x2, x3, x4] t)
  exact ⟨rfl, fun _ => ⟨_, rfl, blk_lt K, fun j u hu => by have := cells_of_blk (off := 0) K j u (by simpa using hu); exact this⟩⟩
theorem own_grow {w w' : World} {base : Nat} {e : TypeId} {size n : Nat} {v : Value} {xs : List Value} {row : Option Nat} (h : w.ownsRow base e size v n xs) (hg : w.grownBy w' row) (hne : ∀ b, v.ownBlock = some b → some b ≠ row) : w'.ownsRow base e size v n xs :=
  h.kept hg (by
    rcases hb : v.ownBlock with _ | b
    · exact .inl rfl
    · exact .inr (hne b hb))
theorem one5 {a b c d : Int} {A : Option Addr} {n cp : Nat} : ∀ u ∈ ([.int .u8 a, .int .u8 b, .int .u8 c, .int .i64 d, .slice A n cp] : List Value), u.oneCell' = true := by
  intro u hu
  simp at hu
  rcases hu with rfl | rfl | rfl | rfl | rfl <;> rfl
set_option maxRecDepth 100000 in
set_option maxHeartbeats 4000000 in
theorem few_acts (A : Option Addr) (n c : Nat) (l : List Ac) (w : World) (hs : Shows w 5 A n (l.flatMap Ac.vals)) (hl : n = l.length) (hok : ∀ a ∈ l, a.ok w) (hn : n ≤ maxLen) :
    Calls Try.prog 11 #[.slice A n c] w fun e w' => ∃ v, e = .returned v ∧ w'.ownsRow w.heap.size 31 5 v (min n 60) (cuts l n) ∧ Ext w w' := by
  have HL := Lib.hid hl
  unfold maxLen at hn
  clear hl
  go_enter Try.func11, Try.ntmps11
  go_wp2
  go_loopw [3, 8] (fun v3 i wr => ∃ k : Nat, i = .int .i64 k ∧ k ≤ n ∧ wr.ownsRow w.heap.size 31 5 v3 (min k 60) (cuts l k) ∧ Ext w wr) (fun _ i _ => n - (intOf i).toNat)
  case atStart => exact ⟨0, rfl, Nat.zero_le _, ⟨rfl, .inl ⟨rfl, rfl⟩⟩, Ext.refl _⟩
  case round =>
    obtain ⟨k, rfl, hk, own, xr⟩ := hrel
    by_cases hlt : k < n
    · have hkn : (k : Int) < n := by omega
      obtain ⟨y, hy⟩ : ∃ y, l[k]? = some y := ⟨_, List.getElem?_eq_getElem (by have := HL.out; omega)⟩
      have hyo := hok _ (List.mem_of_getElem? hy)
      obtain ⟨b, o, rfl, hb, hr⟩ := Shows.row ac_len (by omega) (hs.ext xr) HL.out hy
      have HY := Lib.hid hy
      clear hy
      go_upto_region 5 with (first | refine wpList_load_mid rfl 31 _ rfl _ _ rfl y.vals _ hr Try.underlying31 rfl size31 ?_ | refine wpList_stnew rfl 31 _ _ rfl rfl y.vals rfl rfl size31 rfl (ac_one y) ?_)
      obtain ⟨w4, hw4⟩ : ∃ V, V = wr.alloc (.cells y.vals.toArray 31) := ⟨_, rfl⟩
      have k4 : w4.heap[wr.heap.size]? = some (.cells #[.int .u8 y.k, .int .u8 y.m, .int .u8 y.r, .int .i64 y.left, .slice y.A y.n y.c] 31 (0, 0)) := by rw [hw4]; exact heap_alloc_new _ _
      have x4 : Ext wr w4 := by rw [hw4]; exact (Ext.refl _).alloc _
      rw [← hw4]
      clear hw4 hr
      have own4 := own_ext own x4
      by_cases h60 : k < 60
      · have h60I : (k : Int) < 60 := by omega
        obtain ⟨mm, hmm⟩ : ∃ mm, mm = min y.n 30 := ⟨_, rfl⟩
        have hmin : (if (30 : Int) < y.n then (30 : Int) else y.n) = mm := by split <;> omega
        have hle := hyo.le
        have hmc : mm ≤ y.c := by omega
        have hmcI : (mm : Int) ≤ y.c := by omega
        have HMM := Lib.hid hmm
        clear hmm
        obtain ⟨f0, f1, f2, f3, f4⟩ := cells5 k4
        have z4 := blk_free (i := 4) k4
        go_upto_region 7 with (fail)
        obtain ⟨w5, hw5, K5, x5⟩ := set_new 4 (.slice y.A mm y.c) k4
        rw [← hw5]; clear hw5
        have K5 : w5.heap[wr.heap.size]? = some (.cells #[.int .u8 y.k, .int .u8 y.m, .int .u8 y.r, .int .i64 y.left, .slice y.A mm y.c] 31 (0, 0)) := K5
        have own5 := own_grow own4 x5 (fun b e1 e2 => by have := (own.lt b e1).2; injection e2 with e2; omega)
        have xw5 : Ext w w5 := Ext.of_grown (xr.trans x4) x5 (fun j e => by injection e with e; subst e; exact xr.size)
        clear f0 f1 f2 f3 f4 z4 own4
        obtain ⟨f0, f1, f2, f3, f4⟩ := cells5 K5
        go_wp2_with (at_builtin; refine wpList_app elA rfl _ _ rfl (own5.alloc _) rfl (shows5 rfl) rfl one5 (le_max (by omega)) (by omega) rfl (xw5.alloc _) ?_; intro v9 w9 own9 x9 hg9 hat9; clear hg9 hat9)
        go_roundw
        case rel =>
          refine ⟨k + 1, by go_num, by omega, ?_, x9⟩
          rw [cuts_step l h60 HY.out, show min (k + 1) 60 = min k 60 + 1 by omega]
          rw [HMM.out] at own9
          exact own9
        case measure => simp [intOf]; omega
      · have h60I : ¬ (k : Int) < 60 := by omega
        go_wp2
        go_roundw
        case rel =>
          refine ⟨k + 1, by go_num, by omega, ?_, xr.trans x4⟩
          rw [cuts_skip l h60, show min (k + 1) 60 = min k 60 by omega]
          exact own4
        case measure => simp [intOf]; omega
    · obtain rfl : k = n := by omega
      go_wp2
      go_ret
      exact ⟨_, rfl, own, xr⟩
end Go.Proofs.Ytnjiajogbadadaa
